import Derived.Test.YtfiekdgpdboolabY9
namespace Go.Proofs.Ytfiekdgpdboolab
open Go.RowKit Go.Maps

theorem byt_get {bs : List Int} (hb : ∀ b ∈ bs, 0 ≤ b ∧ b ≤ 255) (i : Nat) : 0 ≤ bs.getD i 0 ∧ bs.getD i 0 ≤ 255 := by
  rw [List.getD_eq_getElem?_getD]
  rcases h : bs[i]? with _ | b
  · simp
  · exact hb b (List.mem_of_getElem? h)

theorem byteOf_word {bs : List Int} (hb : ∀ b ∈ bs, 0 ≤ b ∧ b ≤ 255) (a i : Nat) (hi : i < 8) : byteOf (wordAt bs a) i = bs.getD (a + i) 0 := by
  have h0 := byt_get hb (a + 0)
  have h1 := byt_get hb (a + 1)
  have h2 := byt_get hb (a + 2)
  have h3 := byt_get hb (a + 3)
  have h4 := byt_get hb (a + 4)
  have h5 := byt_get hb (a + 5)
  have h6 := byt_get hb (a + 6)
  have h7 := byt_get hb (a + 7)
  unfold byteOf wordAt
  have : i = 0 ∨ i = 1 ∨ i = 2 ∨ i = 3 ∨ i = 4 ∨ i = 5 ∨ i = 6 ∨ i = 7 := by omega
  rcases this with rfl | rfl | rfl | rfl | rfl | rfl | rfl | rfl <;> simp only [gsum] at * <;> omega

/-- Bytes are words, laid down. -/
theorem bytes_words (bs : List Int) (hb : ∀ b ∈ bs, 0 ≤ b ∧ b ≤ 255) (h8 : bs.length % 8 = 0) : ∃ l : List Int, laidB l = bs ∧ bs.length = 8 * l.length ∧ ∀ i, i < l.length → 0 ≤ l.getD i 0 ∧ l.getD i 0 < 18446744073709551616 := by
  obtain ⟨l, hl⟩ : ∃ l : List Int, l = (List.range (bs.length / 8)).map fun t => wordAt bs (8 * t) := ⟨_, rfl⟩
  have hll : l.length = bs.length / 8 := by rw [hl]; simp
  have hg : ∀ i, i < l.length → l.getD i 0 = wordAt bs (8 * i) := fun i hi => by
    rw [hll] at hi
    rw [hl]; simp [List.getD_eq_getElem?_getD, hi]
  refine ⟨l, list_eq_getD 0 (by rw [laidB_len]; omega) fun j hj => ?_, by omega, fun i hi => by rw [hg i hi]; exact wordAt_bd bs _ hb⟩
  rw [laidB_len] at hj
  rw [show j = 8 * (j / 8) + j % 8 by omega, laidB_get l (j / 8) (j % 8) (by omega) (by omega), hg _ (by omega), byteOf_word hb _ _ (by omega)]

section
variable {P : Program} (w : World)

/-- append of a list to nil, elements of one cell. -/
theorem run_append_copy (t ty e : TypeId) (i : TypeInfo) (z : Value) (bytes : Nat) (ht : P.underlying t = some (.slice e)) (hi : P.info? e = some i) (hz : i.zero = some z)
    (hsize : i.size = 1) (hby : i.bytes = bytes) (hzs : z.cells.size = 1) (p : Option Addr) (m c : Nat) (xs : List Value) (hl : xs.length = m)
    (hx : 0 < m → ∃ ad, p = some ad ∧ ∀ j u, xs[j]? = some u → w.cell? (ad.add j) = some u) (h1 : ∀ u ∈ xs, u.oneCell' = true) (h63 : m ≤ maxLen) (hbytes : m * bytes ≤ 140737488355328) :
    ∃ v w', (Builtin.append_ #[t, t] ty #[.slice none 0 0, .slice p m c]).run P w = .ok v w' ∧ w'.ownsRow w.heap.size e 1 v m xs ∧ w.grownBy w' none := by
  by_cases hm : m = 0
  · subst hm
    have hx0 : xs = [] := List.length_eq_zero_iff.1 hl
    subst hx0
    refine ⟨.slice none 0 0, w, ?_, World.ownsRow_nil _ _ _ _, grownBy_refl _ _⟩
    rcases p with _ | ad
    · exact run_append_owned_none (P := P) w 0 t ty e i 1 ht hi (.slice none 0 0) 0 [] (World.ownsRow_nil w 0 e 1) |> fun h => by
        cases c <;> simp [Builtin.append_, run_underlying ht, sizeOf, typeInfo, hi, Builtin.lenOf, Builtin.firstCells]
    · have hf := run_firstCells_some (P := P) w i.size 0 ad 0 c [] (by simp) (by simp)
      simp [Builtin.append_, run_underlying ht, sizeOf, typeInfo, hi, Builtin.lenOf, hf]
  · obtain ⟨ad, rfl, hc⟩ := hx (by omega)
    obtain ⟨g, cap, w', hr, h2, h3, _, _⟩ := run_append_lies (P := P) w t ty w.heap.size e i z 1 bytes ht hi hz hsize hby hzs (by decide) (.slice none 0 0) 0 [] (World.ownsRow_nil _ _ _ _) ad m c xs (by simpa using hl) hc h1 (by omega) (by omega) (by simpa using hbytes) (Nat.le_refl _) w.heap.size rfl
    refine ⟨_, w', hr, by simpa using h2, h3⟩

theorem wpList_append_copy {ops : Array Oper} {rest : List Oper} {o : Oper} {a : Act} {Q : Exit → Act → World → Prop} (hgd : o.guard = none) (s x : Operand) (t : TypeId)
    (ho : o.op = .call { callee := .builtin .append, args := #[s, x], argTypes := #[t, t] })
    (e : TypeId) (i : TypeInfo) (z : Value) (bytes : Nat) (ht : P.underlying t = some (.slice e)) (hi : P.info? e = some i) (hz : i.zero = some z)
    (hsize : i.size = 1) (hby : i.bytes = bytes) (hzs : z.cells.size = 1) (hs : a.eval s = .slice none 0 0) (p : Option Addr) (m c : Nat) (xs : List Value) (hx : a.eval x = .slice p m c) (hl : xs.length = m)
    (hc : 0 < m → ∃ ad, p = some ad ∧ ∀ j u, xs[j]? = some u → w.cell? (ad.add j) = some u) (h1 : ∀ u ∈ xs, u.oneCell' = true) (h63 : m ≤ maxLen) (hbytes : m * bytes ≤ 140737488355328)
    (h : ∀ v w', w'.ownsRow w.heap.size e 1 v m xs → w.grownBy w' none → wpList P ops Q rest (a.put o.dst v) w') : wpList P ops Q (o :: rest) a w := by
  refine wpList_plain hgd fun K hK => ?_
  obtain ⟨v, w', hr, h2, h3⟩ := run_append_copy (P := P) w t o.type e i z bytes ht hi hz hsize hby hzs p m c xs hl hc h1 h63 hbytes
  unfold Oper.wp execOp
  simp only [ho, resolve, invoke, builtin, Sem.run_bind, Sem.run_pure, Result.andThen_ok, List.map_toArray, List.map_cons, List.map_nil, hs, hx, hr]
  exact hK _ _ (h v w' h2 h3)
end

end Go.Proofs.Ytfiekdgpdboolab
