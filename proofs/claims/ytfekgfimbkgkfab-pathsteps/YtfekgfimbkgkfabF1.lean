import Derived.Test.YtfekgfimbkgkfabE0
namespace Go.Proofs.Ytfekgfimbkgkfab
open Go.RowKit Go.Maps

section
variable {P : Program} (w : World)

/-- append of a list, of nothing too, to a row of the call's own. -/
theorem run_append_any (base : Nat) (t ty e : TypeId) (i : TypeInfo) (z : Value) (size bytes : Nat) (ht : P.underlying t = some (.slice e)) (hi : P.info? e = some i) (hz : i.zero = some z)
    (hsize : i.size = size) (hby : i.bytes = bytes) (hzs : z.cells.size = size) (hsz : 0 < size) (v : Value) (n : Nat) (xs : List Value) (hown : w.ownsRow base e size v n xs) (p : Option Addr) (m c : Nat) (news : List Value) (hl : news.length = m * size)
    (hx : 0 < m → ∃ ad, p = some ad ∧ ∀ j u, news[j]? = some u → w.cell? (ad.add j) = some u) (h1 : ∀ u ∈ news, u.oneCell' = true) (h63 : n + m ≤ maxLen) (hbytes : (n + m) * bytes ≤ 140737488355328) (hbase : base ≤ w.heap.size) :
    ∃ v' w', (Builtin.append_ #[t, t] ty #[v, .slice p m c]).run P w = .ok v' w' ∧ w'.ownsRow base e size v' (n + m) (xs ++ news) ∧ w.grownBy w' v.ownBlock := by
  rcases p with _ | ad
  · have hm : m = 0 := by
      rcases Nat.eq_zero_or_pos m with h | h
      · exact h
      · obtain ⟨ad, h2, _⟩ := hx h; cases h2
    subst hm
    have hx0 : news = [] := List.length_eq_zero_iff.1 (by simpa using hl)
    subst hx0
    have hsame : w.grownBy w v.ownBlock := ⟨rfl, rfl, rfl, Nat.le_refl _, fun _ _ _ => rfl⟩
    refine ⟨v, w, ?_, by simpa using hown, hsame⟩
    rcases hown.2 with ⟨rfl, _⟩ | ⟨g, cap, cur, rfl, _, _, hle, _⟩
    · cases c <;> simp [Builtin.append_, run_underlying ht, sizeOf, typeInfo, hi, Builtin.lenOf, Builtin.firstCells]
    · cases c <;> simp [Builtin.append_, run_underlying ht, sizeOf, typeInfo, hi, Builtin.lenOf, Builtin.firstCells, hle, storeCells]
  · have hnews : ∀ j u, news[j]? = some u → w.cell? (ad.add j) = some u := by
      rcases Nat.eq_zero_or_pos m with h | h
      · subst h
        have hx0 : news = [] := List.length_eq_zero_iff.1 (by simpa using hl)
        intro j u hj; rw [hx0] at hj; simp at hj
      · obtain ⟨ad', h2, h3⟩ := hx h
        cases h2; exact h3
    obtain ⟨v', w', hr, h2, h3, _, _⟩ := run_append_own_at (P := P) w base t ty e i z size bytes ht hi hz hsize hby hzs hsz v n xs hown ad m c news hl hnews h1 h63 hbytes hbase
    exact ⟨v', w', hr, h2, h3⟩

theorem wpList_append_any {ops : Array Oper} {rest : List Oper} {o : Oper} {a : Act} {Q : Exit → Act → World → Prop} (hgd : o.guard = none) (s x : Operand) (t : TypeId)
    (ho : o.op = .call { callee := .builtin .append, args := #[s, x], argTypes := #[t, t] }) (base : Nat)
    (e : TypeId) (i : TypeInfo) (z : Value) (size bytes : Nat) (ht : P.underlying t = some (.slice e)) (hi : P.info? e = some i) (hz : i.zero = some z)
    (hsize : i.size = size) (hby : i.bytes = bytes) (hzs : z.cells.size = size) (hsz : 0 < size) (v : Value) (n : Nat) (xs : List Value) (hs : a.eval s = v) (hown : w.ownsRow base e size v n xs) (p : Option Addr) (m c : Nat) (news : List Value) (hx : a.eval x = .slice p m c) (hl : news.length = m * size)
    (hc : 0 < m → ∃ ad, p = some ad ∧ ∀ j u, news[j]? = some u → w.cell? (ad.add j) = some u) (h1 : ∀ u ∈ news, u.oneCell' = true) (h63 : n + m ≤ maxLen) (hbytes : (n + m) * bytes ≤ 140737488355328) (hbase : base ≤ w.heap.size)
    (h : ∀ v' w', w'.ownsRow base e size v' (n + m) (xs ++ news) → w.grownBy w' v.ownBlock → wpList P ops Q rest (a.put o.dst v') w') : wpList P ops Q (o :: rest) a w := by
  refine wpList_plain hgd fun K hK => ?_
  obtain ⟨v', w', hr, h2, h3⟩ := run_append_any (P := P) w base t o.type e i z size bytes ht hi hz hsize hby hzs hsz v n xs hown p m c news hl hc h1 h63 hbytes hbase
  unfold Oper.wp execOp
  simp only [ho, resolve, invoke, builtin, Sem.run_bind, Sem.run_pure, Result.andThen_ok, List.map_toArray, List.map_cons, List.map_nil, hs, hx, hr]
  exact hK _ _ (h v' w' h2 h3)

end


theorem step_append {ops : Array Oper} {o : Oper} {a : Act} {w : World} {K : Act → World → Prop} {Q : Exit → Act → World → Prop} {E : Prop} (hgd : o.guard = none) (s x : Operand) (t : TypeId)
    (ho : o.op = .call { callee := .builtin .append, args := #[s, x], argTypes := #[t, t] }) (sv xv : Value) (hs : a.eval s = sv) (hx : a.eval x = xv) (v' : Value) (w' : World) (hr : (Builtin.append_ #[t, t] o.type #[sv, xv]).run Try.prog w = .ok v' w')
    (hK : K (a.put o.dst v') w') : if Region.wanted o (yielded ops a.tmps) = true then Oper.wp Try.prog o a w K Q else E := by
  have hw : Region.wanted o (yielded ops a.tmps) = true := by simp [Region.wanted, hgd]
  rw [if_pos hw]
  unfold Oper.wp execOp
  simp only [ho, resolve, invoke, builtin, Sem.run_bind, Sem.run_pure, Result.andThen_ok, List.map_toArray, List.map_cons, List.map_nil, hs, hx, hr]
  exact hK
theorem strs_one (l : List ByteArray) : ∀ u ∈ strs l, u.oneCell' = true := by
  intro u hu
  obtain ⟨s, _, rfl⟩ := List.mem_map.1 hu
  rfl
theorem ecells_one (l : List Ed) : ∀ u ∈ ecells l, u.oneCell' = true := by
  intro u hu
  simp only [ecells, List.mem_flatMap, ecell] at hu
  obtain ⟨x, _, hx⟩ := hu
  simp at hx
  rcases hx with rfl | rfl | rfl | rfl <;> rfl
theorem Row.news {W : World} {a : Option Addr} {n c : Nat} {xs : List Value} (h : Row W (.slice a n c) n xs) : 0 < n → ∃ ad, a = some ad ∧ ∀ j u, xs[j]? = some u → W.cell? (ad.add j) = some u := by
  intro h0
  obtain ⟨b, o, cap, e, _, hc⟩ := h.pos h0
  cases e
  exact ⟨_, rfl, fun j u hj => by rw [addr_add]; exact hc j u hj⟩
theorem Row.take {W : World} {a : Option Addr} {c k : Nat} {p : List ByteArray} (h : Row W (.slice a p.length c) p.length (strs p)) (hk : k ≤ p.length) : Row W (.slice a k c) (p.take k).length (strs (p.take k)) := by
  have hc := h.cap
  have hl : (p.take k).length = k := by rw [List.length_take]; omega
  rw [hl]
  refine ⟨a, c, rfl, by omega, fun h0 => ?_⟩
  obtain ⟨b, o, cap, e, hb, hcc⟩ := h.pos (by omega)
  cases e
  refine ⟨b, o, rfl, hb, fun j u hj => hcc j u ?_⟩
  have e2 : strs (p.take k) = (strs p).take k := by simp [strs, List.map_take]
  rw [e2, List.getElem?_take] at hj
  split at hj
  · exact hj
  · cases hj
theorem Row.takeE {W : World} {a : Option Addr} {c k : Nat} {l : List Ed} (h : Row W (.slice a l.length c) l.length (ecells l)) (hk : k ≤ l.length) : Row W (.slice a k c) (l.take k).length (ecells (l.take k)) := by
  have hc := h.cap
  have hl : (l.take k).length = k := by rw [List.length_take]; omega
  rw [hl]
  refine ⟨a, c, rfl, by omega, fun h0 => ?_⟩
  obtain ⟨b, o, cap, e, hb, hcc⟩ := h.pos (by omega)
  cases e
  refine ⟨b, o, rfl, hb, fun j u hj => hcc j u ?_⟩
  have e2 : ecells l = ecells (l.take k) ++ ecells (l.drop k) := by
    unfold ecells
    rw [← List.flatMap_append, List.take_append_drop]
  rw [e2, List.getElem?_append_left ((List.getElem?_eq_some_iff.1 hj).1)]
  exact hj

set_option maxHeartbeats 1000000 in
set_option maxRecDepth 100000 in
theorem copyEdges_any (w : World) (v : Value) (l : List Ed) (h : Row w v l.length (ecells l)) (hn : l.length ≤ 3518437208780) :
    Calls Try.prog 20 #[v] w fun e w' => ∃ v', e = .returned v' ∧ Hid (w'.ownsRow w.heap.size 40 4 v' l.length (ecells l) ∧ Keeps (fun _ => False) w w') := by
  obtain ⟨i0, hi, hz0, hz1, hz2⟩ := info_parts info40
  obtain ⟨a, cap, rfl, _⟩ := id h
  have HN := Hid.mk' h.news
  clear h
  go_enter Try.func20, Try.ntmps20
  go_wp2_with (first
    | (at_builtin; go_must (refine wpList_append_any _ rfl _ _ 22 rfl w.heap.size 40 i0 (.agg #[.int .i64 0, .string ⟨#[]⟩, .int .i64 0, .bool false]) 4 40 Try.underlying22 hi hz0 hz1 hz2 rfl (by decide) (.slice none 0 0) 0 [] rfl (World.ownsRow_nil _ _ _ _) a l.length cap (ecells l) rfl (ecells_len l) HN.out (ecells_one l) (by unfold maxLen; omega) (by omega) (Nat.le_refl _) ?_); intro v' w1 hown hgr))
  go_ret
  refine ⟨v', rfl, ?_, (Keeps.refl _ w).step hgr (by simp [Value.ownBlock])⟩
  simpa using hown

set_option maxHeartbeats 1000000 in
set_option maxRecDepth 100000 in
theorem step_any (w : World) (v : Value) (p : List ByteArray) (sl : Bool) (k : Nat) (h : Row w v p.length (strs p)) (hn : p.length < 8796093022000) (hk : k ≤ p.length) :
    Calls Try.prog 15 #[.agg #[v, .bool sl], .int .i64 k] w fun e w' => ∃ r, e = .returned (.agg #[r, .bool false]) ∧ Hid (w'.ownsRow w.heap.size 9 1 r (p.take k).length (strs (p.take k)) ∧ Keeps (fun _ => False) w w') := by
  obtain ⟨i0, hi, hz0, hz1, hz2⟩ := info_parts info9
  obtain ⟨a, cap, rfl, hcap, _⟩ := id h
  obtain ⟨n1, n2, n3, n4⟩ := two_blocks w (.cells #[.slice a p.length cap, .bool sl] 25) (.cells #[.slice none 0 0, .bool false] 25)
  have hl : (p.take k).length = k := by rw [List.length_take]; omega
  have hT := (h.take hk).keep n3
  rw [hl] at hT
  have HN := Hid.mk' hT.news
  have hkc : (k : Int) ≤ (cap : Int) := by omega
  rw [hl]
  have H0 := Hid.mk' (And.intro n2 (And.intro n3 n4))
  clear n1 n2 n3 n4 h hT
  go_enter Try.func15, Try.ntmps15
  go_wp2_with (first
    | (at_builtin; go_must (refine wpList_append_any _ rfl _ _ 23 rfl (w.heap.size + 2) 9 i0 (.string ⟨#[]⟩) 1 16 Try.underlying23 hi hz0 hz1 hz2 rfl (by decide) (.slice none 0 0) 0 [] rfl (World.ownsRow_nil _ _ _ _) a k cap (strs (p.take k)) rfl (by rw [strs_len, hl, Nat.mul_one]) HN.out (strs_one _) (by unfold maxLen; omega) (by omega) (by rw [H0.out.2.2]; omega) ?_)
       intro v' w1 hown hgr
       have hk1 : Keeps (fun _ => False) _ w1 := Keeps.of hgr (by simp [Value.ownBlock])
       have hB := hk1.at H0.out.1 id
       obtain ⟨ra, rc, er, _⟩ := Row.of_own hown
       subst er
       obtain ⟨q0, q1, qf⟩ := cells2 hB
       have f0 := qf 0
       have f1 := qf 1
       obtain ⟨d0, d1⟩ := set2c hB (.slice ra (0 + k) rc) (.bool false)
       obtain ⟨_, s2⟩ := set2 hB (.slice ra (0 + k) rc) (.bool false)
       have HE : Hid (((w1.setCell ⟨w.heap.size + 1, 0, none⟩ (.slice ra (0 + k) rc)).setCell ⟨w.heap.size + 1, 1, none⟩ (.bool false)).ownsRow w.heap.size 9 1 (.slice ra (0 + k) rc) k (strs (p.take k)) ∧ Keeps (fun _ => False) w ((w1.setCell ⟨w.heap.size + 1, 0, none⟩ (.slice ra (0 + k) rc)).setCell ⟨w.heap.size + 1, 1, none⟩ (.bool false))) := by
         refine ⟨?_, (H0.out.2.1.trans hk1).then s2 (fun k hk => Or.inr (by omega))⟩
         have h1 := own_base (base' := w.heap.size) (own_keep hown s2 (fun g hg hk => by have := (hown.lt g hg).1; omega)) (by omega)
         rw [List.nil_append, Nat.zero_add] at h1
         rw [Nat.zero_add]; exact h1
       rw [Nat.zero_add] at d0 d1 HE ⊢
       clear qf s2 hB hk1 hgr hown))
  refine bodyPost_ret (v := .agg #[.slice ra k rc, .bool false]) (by simp [results, Try.results15, go_sem, d0, d1]) rfl ?_
  exact ⟨_, rfl, HE.out⟩
end Go.Proofs.Ytfekgfimbkgkfab
