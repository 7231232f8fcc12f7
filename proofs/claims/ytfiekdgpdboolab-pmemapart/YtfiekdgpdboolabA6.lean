import Derived.Test.YtfiekdgpdboolabA5
import Derived.Lib.SliceRun
namespace Go.Proofs.Ytfiekdgpdboolab
open Go.RowKit Go.Maps

theorem splice_cons {α : Type} (L : List α) (o : Nat) (v : α) (vs : List α) (h : o + (vs.length + 1) ≤ L.length) : splice (L.set o v) (o + 1) vs = splice L o (v :: vs) := by
  have e1 : (L.set o v).take (o + 1) = L.take o ++ [v] := by
    rw [List.set_eq_take_append_cons_drop, if_pos (by omega), List.take_append]
    simp only [List.length_take, Nat.min_eq_left (show o ≤ L.length by omega), Nat.add_sub_cancel_left, List.take_succ_cons, List.take_zero]
    rw [List.take_of_length_le (by simp; omega)]
  have e2 : (L.set o v).drop (o + 1 + vs.length) = L.drop (o + (vs.length + 1)) := by
    rw [List.drop_set_of_lt (by omega)]
    congr 1; omega
  simp only [splice, e1, e2, List.length_cons, List.append_assoc, List.cons_append, List.nil_append]

theorem setCells_block {g : Nat} {t : TypeId} {f : Nat × Nat} : ∀ (vs : List Value) (o : Nat) (w : World) (cur : List Value), w.heap[g]? = some (.cells cur.toArray t f) → o + vs.length ≤ cur.length →
    (w.setCells g o vs).heap[g]? = some (.cells (splice cur o vs).toArray t f)
  | [], o, w, cur, h, _ => by simpa [World.setCells, splice] using h
  | v :: vs, o, w, cur, h, hl => by
    simp only [World.setCells]
    have h1 := setCell_block (a := ⟨g, o, none⟩) (v := v) h rfl
    have h2 := setCells_block vs (o + 1) _ (cur.set o v) (by simpa using h1) (by simp at hl ⊢; omega)
    rw [h2, splice_cons _ _ _ _ (by simpa using hl)]

theorem setCells_grown {g : Nat} : ∀ (vs : List Value) (o : Nat) (w : World), w.grownBy (w.setCells g o vs) (some g) ∧ (w.setCells g o vs).heap.size = w.heap.size
  | [], o, w => ⟨grownBy_refl _ _, rfl⟩
  | v :: vs, o, w => by
    simp only [World.setCells]
    have h := setCells_grown (g := g) vs (o + 1) (w.setCell ⟨g, o, none⟩ v)
    exact ⟨grownBy_trans (grownBy_setCell w ⟨g, o, none⟩ v) h.1, by rw [h.2]; simp [World.setCell]⟩

/-- append where there is room, as one step of a region that draws: the row's cells behind it. -/
theorem step_append_put {P : Program} {ops : Array Oper} {o : Oper} {a : Act} {w : World} {K : Act → World → Prop} {Q : Exit → Act → World → Prop} {E : Prop}
    (hg : o.guard = none) (s x : Operand) (t : TypeId) (hop : o.op = Op.call { callee := Callee.builtin Builtin.append, args := #[s, x], argTypes := #[t, t] })
    (e : TypeId) (i : TypeInfo) (h1 : P.underlying t = some (.slice e)) (h2 : P.info? e = some i) (h4 : i.size = 1)
    (b off n cap : Nat) (hs : a.eval s = .slice (some ⟨b, off, none⟩) n cap)
    (ad : Addr) (m c : Nat) (news : List Value) (hx : a.eval x = .slice (some ad) m c) (hn : news.length = m) (hc : ∀ j u, news[j]? = some u → w.cell? (ad.add j) = some u) (h1c : ∀ u ∈ news, u.oneCell' = true)
    (hroom : n + m ≤ cap) (cur : List Value) (ty : TypeId) (hcur : w.heap[b]? = some (.cells cur.toArray ty (0, 0))) (hfit : off + n + m ≤ cur.length)
    (hK : ∀ w', Hid (w'.heap[b]? = some (.cells (splice cur (off + n) news).toArray ty (0, 0))) → Hid (w.grownBy w' (some b) ∧ w'.heap.size = w.heap.size) → K (a.put o.dst (.slice (some ⟨b, off, none⟩) (n + m) cap)) w') :
    if Region.wanted o (yielded ops a.tmps) = true then Oper.wp P o a w K Q else E := by
  refine step_append_room hg s x t hop e i 1 h1 h2 h4 b off n cap hs ad m c news hx (by simpa using hn) hc h1c hroom ?_ ?_
  · intro j hj
    simp [World.cell?, World.frozen?, hcur]
    omega
  · simp only [Nat.mul_one]
    exact hK _ (setCells_block news (off + n) w cur hcur (by omega)) (setCells_grown news (off + n) w)

/-- clear of a slice of one-cell elements. -/
theorem wpList_clear_put {P : Program} {ops : Array Oper} {rest : List Oper} {o : Oper} {a : Act} {w : World} {Q : Exit → Act → World → Prop}
    (hg : o.guard = none) (s : Operand) (t : TypeId) (hop : o.op = Op.call { callee := Callee.builtin Builtin.clear, args := #[s], argTypes := #[t] })
    (e : TypeId) (z : Value) (ht : P.underlying t = some (.slice e)) (hv : ∀ w, (zeroValue e).run P w = .ok z w) (hz : z.cells = #[z]) (h1 : z.oneCell' = true)
    (b off n cap : Nat) (hs : a.eval s = .slice (some ⟨b, off, none⟩) n cap) (hn : 0 < n) (cur : List Value) (ty : TypeId) (hcur : w.heap[b]? = some (.cells cur.toArray ty (0, 0))) (hfit : off + n ≤ cur.length)
    (hK : ∀ w', Hid (w'.heap[b]? = some (.cells (splice cur off (List.replicate n z)).toArray ty (0, 0))) → Hid (w.grownBy w' (some b) ∧ w'.heap.size = w.heap.size) → wpList P ops Q rest (a.put o.dst (.tuple #[])) w') :
    wpList P ops Q (o :: rest) a w := by
  refine wpList_plain hg fun K hK' => ?_
  have hrun := Go.Lib.run_clear_slice (P := P) w t e o.type z ht hv hz h1 b off n cap hn (by intro j hj; simp [World.cell?, hcur]; omega) (by intro j hj; simp [World.frozen?, hcur])
  unfold Oper.wp
  simp [execOp, hop, resolve, invoke, builtin, hs, hrun, Result.andThen]
  exact hK' _ _ (hK _ (setCells_block _ off w cur hcur (by simpa using hfit)) (setCells_grown _ off w))

theorem grownBy_drew {a b : World} {r : Option Nat} (h : a.drew.grownBy b r) : a.grownBy b r := ⟨h.os, h.tape, h.output, h.size, h.block⟩

theorem zero30 (w : World) : (zeroValue 47).run Try.prog w = .ok (.int .u64 0) w := by kernel_rfl

set_option maxHeartbeats 2000000 in
theorem delete_any (g k cap j : Nat) (cur : List Value) (w : World) (hcur : w.heap[g]? = some (.cells cur.toArray 47 (0, 0))) (hl : cur.length = cap) (hk : k ≤ cap) (hcap : cap ≤ maxLen) (hj : 0 < j) (hjk : j ≤ k)
    (hone : ∀ u ∈ (cur.take k).drop j, u.oneCell' = true) :
    Calls Try.prog 42 #[.slice (some ⟨g, 0, none⟩) k cap, .int .i64 0, .int .i64 j] w fun e w' => e = .returned (.slice (some ⟨g, 0, none⟩) (k - j) cap) ∧
      w'.ownsRow 0 47 1 (.slice (some ⟨g, 0, none⟩) (k - j) cap) (k - j) ((cur.take k).drop j) ∧ w.grownBy w' (some g) ∧ w'.heap.size = w.heap.size := by
  obtain ⟨i0, hi, hz0, hz1, hz2⟩ := info_parts info30
  unfold maxLen at hcap
  have b1 : (0 : Int) ≤ (j : Int) := by omega
  have b2 : (j : Int) ≤ (k : Int) := by omega
  have b3 : (k : Int) ≤ (cap : Int) := by omega
  have b4 : ((0 : Int) == (j : Int)) = false := by simp; omega
  have b5 : (j : Int) ≤ (cap : Int) := by omega
  have HC : Hid (w.heap[g]? = some (.cells cur.toArray 47 (0, 0))) := hcur
  have HL : Hid (cur.length = cap) := hl
  clear hcur hl
  have HSRC : ∀ ad : Addr, (ad = ⟨g, j, none⟩ ∨ k = j) → Hid (∀ i u, ((cur.take k).drop j)[i]? = some u → w.cell? (ad.add i) = some u) := by
    intro ad had i u hu
    rcases had with rfl | rfl
    · have h1 := HC.out
      have hi : i < k - j := by
        have := (List.getElem?_eq_some_iff.1 hu).1
        simp at this; omega
      rw [List.getElem?_drop, List.getElem?_take_of_lt (by omega)] at hu
      by_cases h0 : i = 0
      · subst h0; simpa [Addr.add, World.cell?, h1] using hu
      · simpa [Addr.add, h0, World.cell?, h1] using hu
    · have := (List.getElem?_eq_some_iff.1 hu).1
      simp at this
  have HS1 := HSRC ⟨g, j, none⟩ (Or.inl rfl)
  have HS2 : k = j → Hid (∀ i u, ((cur.take k).drop j)[i]? = some u → w.cell? ((⟨g, 0, none⟩ : Addr).add i) = some u) := fun e => HSRC _ (Or.inr e)
  clear HSRC
  have HLN : Hid (((cur.take k).drop j).length = k - j) := by have := HL.out; simp [Hid]; omega
  have HON : Hid (∀ u ∈ (cur.take k).drop j, u.oneCell' = true) := hone
  clear hone
  have b6 : ¬ cap = k - j := by omega
  have b7 : (0 : Int) ≤ ((k - j : Nat) : Int) := by omega
  have b8 : ((k - j : Nat) : Int) ≤ (k : Int) := by omega
  have b9 : k - j ≤ k := by omega
  have b10 : k - (k - j) = j := by omega
  go_enter Try.func42, Try.ntmps42
  go_wp2
  by_cases hcj : cap = j
  · have hkj : k = j := by omega
    have HS3 := HS2 hkj
    clear HS2 HS1 b6 b7 b8 b9 b10
    subst hkj
    subst hcj
    have HLN' : Hid (((cur.take cap).drop cap).length = 0) := by simp [Hid]
    clear HLN
    have b11 : ¬ cap = 0 := by omega
    go_region_law ((refine step_append_put rfl _ _ 22 rfl 47 i0 Try.underlying22 hi hz1 g 0 0 cap (by rfl) ⟨g, 0, none⟩ 0 0 ((cur.take cap).drop cap) (by rfl) HLN'.out HS3.out HON.out (by omega) cur 47 HC.out (by have := HL.out; omega) ?_; intro w4 hw4 hg4))
    go_wp2_with (refine wpList_clear_put rfl _ 22 rfl 47 (.int .u64 0) Try.underlying22 zero30 rfl rfl g 0 cap cap rfl hj _ 47 hw4.out (by have h1 := HL.out; have h2 := HLN'.out; rw [length_splice _ _ _ (by omega)]; omega) ?_; intro w5 hw5 hg5)
    go_ret
    refine ⟨by simp, ?_, grownBy_trans (grownBy_drew hg4.out.1) hg5.out.1, by rw [hg5.out.2]; exact hg4.out.2⟩
    have h1 := HL.out
    have h2 := HLN'.out
    refine ⟨by simp, Or.inr ⟨g, cap, _, rfl, Nat.zero_le _, hw5.out, by omega, by unfold maxLen; omega, ?_, ?_⟩⟩
    · have e1 : (splice cur 0 (List.drop cap (List.take cap cur))).length = cap := by rw [length_splice _ _ _ (by omega)]; exact h1
      simp only [List.size_toArray, Nat.mul_one, Nat.add_zero]
      rw [length_splice _ _ _ (by rw [List.length_replicate]; omega)]; exact e1
    · simp [List.eq_nil_of_length_eq_zero h2]
  · clear HS2
    go_region_law ((refine step_append_put rfl _ _ 22 rfl 47 i0 Try.underlying22 hi hz1 g 0 0 cap (by rfl) ⟨g, j, none⟩ (k - j) (cap - j) ((cur.take k).drop j) (by rfl) HLN.out HS1.out HON.out (by omega) cur 47 HC.out (by have := HL.out; omega) ?_; intro w4 hw4 hg4))
    go_wp2_with (refine wpList_clear_put rfl _ 22 rfl 47 (.int .u64 0) Try.underlying22 zero30 rfl rfl g (k - j) j (cap - (k - j)) rfl hj _ 47 hw4.out (by have h1 := HL.out; have h2 := HLN.out; rw [length_splice _ _ _ (by omega)]; omega) ?_; intro w5 hw5 hg5)
    go_ret
    refine ⟨by simp, ?_, grownBy_trans (grownBy_drew hg4.out.1) hg5.out.1, by rw [hg5.out.2]; exact hg4.out.2⟩
    have h1 := HL.out
    have h2 := HLN.out
    have e1 : (splice cur 0 (List.drop j (List.take k cur))).length = cap := by rw [length_splice _ _ _ (by omega)]; exact h1
    refine ⟨by simpa using h2, Or.inr ⟨g, cap, _, rfl, Nat.zero_le _, hw5.out, by omega, by unfold maxLen; omega, ?_, ?_⟩⟩
    · simp only [List.size_toArray, Nat.mul_one, Nat.add_zero]
      rw [length_splice _ _ _ (by rw [List.length_replicate]; omega)]; exact e1
    · simp only [Nat.mul_one, Nat.add_zero]
      rw [splice, List.take_append_of_le_length (by rw [List.length_take]; omega), List.take_take, Nat.min_self]
      rw [splice, List.take_zero, List.nil_append, List.take_append_of_le_length (by omega), List.take_of_length_le (by omega)]

end Go.Proofs.Ytfiekdgpdboolab
