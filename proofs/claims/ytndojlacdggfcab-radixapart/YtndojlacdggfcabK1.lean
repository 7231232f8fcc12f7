import Derived.Test.YtndojlacdggfcabI5
namespace Go.Proofs.Ytndojlacdggfcab
open Go.RowKit

section
variable {P : Program} (w : World)
theorem run_append_any (base : Nat) (t ty e : TypeId) (i : TypeInfo) (z : Value) (size bytes : Nat) (ht : P.underlying t = some (.slice e)) (hi : P.info? e = some i) (hz : i.zero = some z)
    (hsize : i.size = size) (hby : i.bytes = bytes) (hzs : z.cells.size = size) (hsz : 0 < size) (v : Value) (n : Nat) (xs : List Value) (hown : w.ownsRow base e size v n xs) (p : Option Addr) (m c : Nat) (news : List Value) (hl : news.length = m * size)
    (hx : 0 < m → ∃ ad, p = some ad ∧ ∀ j u, news[j]? = some u → w.cell? (ad.add j) = some u) (h1 : ∀ u ∈ news, u.oneCell' = true) (h63 : n + m ≤ maxLen) (hbytes : (n + m) * bytes ≤ 140737488355328) (hbase : base ≤ w.heap.size) :
    ∃ v' w', (Builtin.append_ #[t, t] ty #[v, .slice p m c]).run P w = .ok v' w' ∧ w'.ownsRow base e size v' (n + m) (xs ++ news) ∧ w.grownBy w' v.ownBlock := by
  rcases p with _ | ad
  · have hm : m = 0 := by
      rcases Nat.eq_zero_or_pos m with h | h
      · exact h
      · obtain ⟨ad, h2, _⟩ := hx h; cases h2
    subst hm
    have hx0 : news = [] := List.length_eq_zero_iff.1 (by simpa using hl)
    subst hx0
    have hsame : w.grownBy w v.ownBlock := ⟨rfl, rfl, rfl, Nat.le_refl _, fun _ _ _ => rfl⟩
    refine ⟨v, w, ?_, by simpa using hown, hsame⟩
    rcases hown.2 with ⟨rfl, _⟩ | ⟨g, cap, cur, rfl, _, _, hle, _⟩
    · cases c <;> simp [Builtin.append_, run_underlying ht, sizeOf, typeInfo, hi, Builtin.lenOf, Builtin.firstCells]
    · cases c <;> simp [Builtin.append_, run_underlying ht, sizeOf, typeInfo, hi, Builtin.lenOf, Builtin.firstCells, hle, storeCells]
  · have hnews : ∀ j u, news[j]? = some u → w.cell? (ad.add j) = some u := by
      rcases Nat.eq_zero_or_pos m with h | h
      · subst h
        have hx0 : news = [] := List.length_eq_zero_iff.1 (by simpa using hl)
        intro j u hj; rw [hx0] at hj; simp at hj
      · obtain ⟨ad', h2, h3⟩ := hx h
        cases h2; exact h3
    obtain ⟨v', w', hr, h2, h3, _, _⟩ := run_append_own_at (P := P) w base t ty e i z size bytes ht hi hz hsize hby hzs hsz v n xs hown ad m c news hl hnews h1 h63 hbytes hbase
    exact ⟨v', w', hr, h2, h3⟩

theorem wpList_append_any {ops : Array Oper} {rest : List Oper} {o : Oper} {a : Act} {Q : Exit → Act → World → Prop} (hgd : o.guard = none) (s x : Operand) (t : TypeId)
    (ho : o.op = .call { callee := .builtin .append, args := #[s, x], argTypes := #[t, t] }) (base : Nat)
    (e : TypeId) (i : TypeInfo) (z : Value) (size bytes : Nat) (ht : P.underlying t = some (.slice e)) (hi : P.info? e = some i) (hz : i.zero = some z)
    (hsize : i.size = size) (hby : i.bytes = bytes) (hzs : z.cells.size = size) (hsz : 0 < size) (v : Value) (n : Nat) (xs : List Value) (hs : a.eval s = v) (hown : w.ownsRow base e size v n xs) (p : Option Addr) (m c : Nat) (news : List Value) (hx : a.eval x = .slice p m c) (hl : news.length = m * size)
    (hc : 0 < m → ∃ ad, p = some ad ∧ ∀ j u, news[j]? = some u → w.cell? (ad.add j) = some u) (h1 : ∀ u ∈ news, u.oneCell' = true) (h63 : n + m ≤ maxLen) (hbytes : (n + m) * bytes ≤ 140737488355328) (hbase : base ≤ w.heap.size)
    (h : ∀ v' w', w'.ownsRow base e size v' (n + m) (xs ++ news) → w.grownBy w' v.ownBlock → wpList P ops Q rest (a.put o.dst v') w') : wpList P ops Q (o :: rest) a w := by
  refine wpList_plain hgd fun K hK => ?_
  obtain ⟨v', w', hr, h2, h3⟩ := run_append_any (P := P) w base t o.type e i z size bytes ht hi hz hsize hby hzs hsz v n xs hown p m c news hl hc h1 h63 hbytes hbase
  unfold Oper.wp execOp
  simp only [ho, resolve, invoke, builtin, Sem.run_bind, Sem.run_pure, Result.andThen_ok, List.map_toArray, List.map_cons, List.map_nil, hs, hx, hr]
  exact hK _ _ (h v' w' h2 h3)
end



/-- New trees of both kinds, and what the two stores want. -/
theorem PL.put {w0 w W : World} {b d t r : Nat} {f : Nat → Int} (h : PL w0 w b) (hd : d < 3) (hk : Keeps (fun _ => False) w W) (hT : TreeAt W t f) (hR : RefAt W r f) (ht : w.heap.size ≤ t) (hr : w.heap.size ≤ r) :
    (∃ u, W.cell? ⟨b, d, none⟩ = some u) ∧ W.frozen? ⟨b, d, none⟩ = false ∧ (∃ u, (W.setCell ⟨b, d, none⟩ (.pointer (some ⟨t, 0, none⟩))).cell? ⟨b, 3 + d, none⟩ = some u) ∧ (W.setCell ⟨b, d, none⟩ (.pointer (some ⟨t, 0, none⟩))).frozen? ⟨b, 3 + d, none⟩ = false ∧
    Hid (PL w0 ((W.setCell ⟨b, d, none⟩ (.pointer (some ⟨t, 0, none⟩))).setCell ⟨b, 3 + d, none⟩ (.pointer (some ⟨r, 0, none⟩))) b) := by
  obtain ⟨ts, rs, fs, ps, qs, hB, hk0, hb0, hn0⟩ := h
  have hb : BObj W b ps qs := hk.at hB.blk id
  have hC := b_setP hb d hd (some ⟨t, 0, none⟩)
  have k1 := one_keeps W b d (.pointer (some ⟨t, 0, none⟩))
  refine ⟨⟨_, (b_cell hb d hd).1⟩, b_frozen hb d, ⟨_, (b_cell hC d hd).2⟩, b_frozen hC (3 + d), ?_⟩
  have k2 := one_keeps (W.setCell ⟨b, d, none⟩ (.pointer (some ⟨t, 0, none⟩))) b (3 + d) (.pointer (some ⟨r, 0, none⟩))
  have hD := b_setR hC d hd (some ⟨r, 0, none⟩)
  have kBD := k1.trans k2
  have kAD := (hk.mono (Y := fun c => c = b) (fun _ _ h => h.elim)).trans kBD
  have hput := hB.put (k' := 3) (fun j hj _ => hj) kAD hD (hT.past kBD (BObj.no_node hb) (tree_ne_b hT hb)) (kBD.at hR (fun e => ref_ne_b hR hb e)) ht hr
  refine ⟨_, _, _, _, _, hput, keeps_new hk0 kAD hb0, hb0, fun j hj => ?_⟩
  have hw := hk0.size
  by_cases e : j = d
  · simp only [setT, if_pos e]; omega
  · simp only [setT, if_neg e]; exact hn0 j hj

end Go.Proofs.Ytndojlacdggfcab
