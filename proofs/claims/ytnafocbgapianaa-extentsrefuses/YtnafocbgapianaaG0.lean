import Derived.Test.YtnafocbgapianaaL1
namespace Go.Proofs.Ytnafocbgapianaa
open Go.RowKit

section
variable {P : Program} (w : World)

/-- append of a list, of nothing too, to a row of the call's own. -/
theorem run_append_any (base : Nat) (t ty e : TypeId) (i : TypeInfo) (z : Value) (size bytes : Nat) (ht : P.underlying t = some (.slice e)) (hi : P.info? e = some i) (hz : i.zero = some z)
    (hsize : i.size = size) (hby : i.bytes = bytes) (hzs : z.cells.size = size) (hsz : 0 < size) (v : Value) (n : Nat) (xs : List Value) (hown : w.ownsRow base e size v n xs) (p : Option Addr) (m c : Nat) (news : List Value) (hl : news.length = m * size)
    (hx : 0 < m → ∃ ad, p = some ad ∧ ∀ j u, news[j]? = some u → w.cell? (ad.add j) = some u) (h1 : ∀ u ∈ news, u.oneCell' = true) (h63 : n + m ≤ maxLen) (hbytes : (n + m) * bytes ≤ 140737488355328) (hbase : base ≤ w.heap.size) :
    ∃ v' w', (Builtin.append_ #[t, t] ty #[v, .slice p m c]).run P w = .ok v' w' ∧ w'.ownsRow base e size v' (n + m) (xs ++ news) ∧ w.grownBy w' v.ownBlock := by
  rcases p with _ | ad
  · have hm : m = 0 := by
      rcases Nat.eq_zero_or_pos m with h | h
      · exact h
      · obtain ⟨ad, h2, _⟩ := hx h; cases h2
    subst hm
    have hx0 : news = [] := List.length_eq_zero_iff.1 (by simpa using hl)
    subst hx0
    have hsame : w.grownBy w v.ownBlock := ⟨rfl, rfl, rfl, Nat.le_refl _, fun _ _ _ => rfl⟩
    refine ⟨v, w, ?_, by simpa using hown, hsame⟩
    rcases hown.2 with ⟨rfl, _⟩ | ⟨g, cap, cur, rfl, _, _, hle, _⟩
    · cases c <;> simp [Builtin.append_, run_underlying ht, sizeOf, typeInfo, hi, Builtin.lenOf, Builtin.firstCells]
    · cases c <;> simp [Builtin.append_, run_underlying ht, sizeOf, typeInfo, hi, Builtin.lenOf, Builtin.firstCells, hle, storeCells]
  · have hnews : ∀ j u, news[j]? = some u → w.cell? (ad.add j) = some u := by
      rcases Nat.eq_zero_or_pos m with h | h
      · subst h
        have hx0 : news = [] := List.length_eq_zero_iff.1 (by simpa using hl)
        intro j u hj; rw [hx0] at hj; simp at hj
      · obtain ⟨ad', h2, h3⟩ := hx h
        cases h2; exact h3
    obtain ⟨v', w', hr, h2, h3, _, _⟩ := run_append_own_at (P := P) w base t ty e i z size bytes ht hi hz hsize hby hzs hsz v n xs hown ad m c news hl hnews h1 h63 hbytes hbase
    exact ⟨v', w', hr, h2, h3⟩

theorem wpList_append_any {ops : Array Oper} {rest : List Oper} {o : Oper} {a : Act} {Q : Exit → Act → World → Prop} (hgd : o.guard = none) (s x : Operand) (t : TypeId)
    (ho : o.op = .call { callee := .builtin .append, args := #[s, x], argTypes := #[t, t] }) (base : Nat)
    (e : TypeId) (i : TypeInfo) (z : Value) (size bytes : Nat) (ht : P.underlying t = some (.slice e)) (hi : P.info? e = some i) (hz : i.zero = some z)
    (hsize : i.size = size) (hby : i.bytes = bytes) (hzs : z.cells.size = size) (hsz : 0 < size) (v : Value) (n : Nat) (xs : List Value) (hs : a.eval s = v) (hown : w.ownsRow base e size v n xs) (p : Option Addr) (m c : Nat) (news : List Value) (hx : a.eval x = .slice p m c) (hl : news.length = m * size)
    (hc : 0 < m → ∃ ad, p = some ad ∧ ∀ j u, news[j]? = some u → w.cell? (ad.add j) = some u) (h1 : ∀ u ∈ news, u.oneCell' = true) (h63 : n + m ≤ maxLen) (hbytes : (n + m) * bytes ≤ 140737488355328) (hbase : base ≤ w.heap.size)
    (h : ∀ v' w', w'.ownsRow base e size v' (n + m) (xs ++ news) → w.grownBy w' v.ownBlock → wpList P ops Q rest (a.put o.dst v') w') : wpList P ops Q (o :: rest) a w := by
  refine wpList_plain hgd fun K hK => ?_
  obtain ⟨v', w', hr, h2, h3⟩ := run_append_any (P := P) w base t o.type e i z size bytes ht hi hz hsize hby hzs hsz v n xs hown p m c news hl hc h1 h63 hbytes hbase
  unfold Oper.wp execOp
  simp only [ho, resolve, invoke, builtin, Sem.run_bind, Sem.run_pure, Result.andThen_ok, List.map_toArray, List.map_cons, List.map_nil, hs, hx, hr]
  exact hK _ _ (h v' w' h2 h3)
end

/-- A part of a list of numbers in memory. -/
theorem IntIn.part {w : World} {b o : Nat} {l : List Int} (h : IntIn w (some ⟨b, o, none⟩) l) (k n : Nat) (hn : k + n ≤ l.length) : 0 < n → ∃ ad, some (⟨b, o + k, none⟩ : Addr) = some ad ∧ ∀ j u, (numCells ((l.drop k).take n))[j]? = some u → w.cell? (ad.add j) = some u := by
  intro h0
  obtain ⟨b', o', e, hb, hc⟩ := h (by omega)
  cases e
  refine ⟨_, rfl, ?_⟩
  intro j u hj
  have hjl : j < n := by have := (List.getElem?_eq_some_iff.1 hj).1; simp [numCells] at this; omega
  have hadd : (⟨b, o + k, none⟩ : Addr).add j = ⟨b, o + (k + j), none⟩ := by unfold Addr.add; split <;> simp_all [Nat.add_assoc]
  rw [hadd, hc (k + j) (by omega)]
  unfold numCells at hj
  rw [List.getElem?_map, List.getElem?_take_of_lt hjl, List.getElem?_drop, List.getElem?_eq_getElem (by omega)] at hj
  rw [List.getD_eq_getElem?_getD, List.getElem?_eq_getElem (by omega)]
  simpa using hj

/-- What is told of a slice of numbers that was cut. -/
theorem slice_from (w : World) (p : Option Addr) (n cap k : Nat) (hk : k ≤ n) :
    (Instr.slice 49 (.slice p n cap) (some (.int .i64 (k : Int))) none none).run Try.prog w = .ok (.slice (if cap = k then p else p.map (·.add k)) (n - k) (cap - k)) w := by
  have he : Try.prog.elem 49 = 3 := by kernel_rfl
  have hz : (sizeOf (Try.prog.elem 49)).run Try.prog w = .ok 1 w := by rw [he]; rfl
  have ht : Try.prog.underlying 49 = some (.slice (Try.prog.elem 49)) := by rw [he]; exact Try.underlying49
  rw [run_slice_l w 49 p n cap ht .i64 (k : Int) (by omega) (by omega), hz]
  simp [Result.andThen, sliced]
theorem addr_zero (a : Addr) : a.add 0 = a := by
  obtain ⟨b, o, sp⟩ := a
  cases sp <;> rfl
theorem slice_to (w : World) (p : Option Addr) (n cap k : Nat) (hk : k ≤ cap) :
    (Instr.slice 49 (.slice p n cap) none (some (.int .i64 (k : Int))) none).run Try.prog w = .ok (.slice p k cap) w := by
  have he : Try.prog.elem 49 = 3 := by kernel_rfl
  have hz : (sizeOf (Try.prog.elem 49)).run Try.prog w = .ok 1 w := by rw [he]; rfl
  have ht : Try.prog.underlying 49 = some (.slice (Try.prog.elem 49)) := by rw [he]; exact Try.underlying49
  rw [run_slice_h w 49 p n cap ht .i64 (k : Int) (by omega) (by omega), hz]
  have : p.map (fun a => a.add 0) = p := by cases p <;> simp [addr_zero]
  simp [Result.andThen, sliced, this]

theorem numAt_cap {w : World} {B : Nat} {p : Option Addr} {n cap : Nat} {T : List Nat} (h : NumAt w B (.slice p n cap) T) : T.length ≤ cap := by
  rcases h.2 with ⟨h0, h1⟩ | ⟨g, c, cur, hv, _, _, h1, _⟩
  · omega
  · cases hv; exact h1
theorem numCells_app (a b : List Int) : numCells (a ++ b) = numCells a ++ numCells b := by simp [numCells]
theorem numCells_len (a : List Int) : (numCells a).length = a.length := by simp [numCells]

/-- What stands behind the first k of a list in memory. -/
theorem IntIn.behind {w : World} {p : Option Addr} {l : List Int} (h : IntIn w p l) (cap k : Nat) (hc : l.length ≤ cap) : 0 < l.length - k → ∃ ad, (if cap = k then p else p.map (·.add k)) = some ad ∧ ∀ j u, (numCells (l.drop k))[j]? = some u → w.cell? (ad.add j) = some u := by
  intro h0
  obtain ⟨b, o, rfl, hb, hx⟩ := h (by omega)
  have e : (if cap = k then some (⟨b, o, none⟩ : Addr) else (some (⟨b, o, none⟩ : Addr)).map (·.add k)) = some ⟨b, o + k, none⟩ := by
    rw [if_neg (by omega)]
    simp only [Option.map_some, Option.some.injEq]
    unfold Addr.add; split
    · rename_i h; rw [h]; rfl
    · rfl
  obtain ⟨ad, h1, h2⟩ := h.part k (l.length - k) (by omega) h0
  refine ⟨_, e, ?_⟩
  cases h1
  rw [List.take_of_length_le (by simp)] at h2
  exact h2
theorem IntIn.ahead {w : World} {p : Option Addr} {l : List Int} (h : IntIn w p l) (k : Nat) (hk : k ≤ l.length) : 0 < k → ∃ ad, p = some ad ∧ ∀ j u, (numCells (l.take k))[j]? = some u → w.cell? (ad.add j) = some u := by
  intro h0
  obtain ⟨b, o, rfl, hb, hx⟩ := h (by omega)
  obtain ⟨ad, h1, h2⟩ := h.part 0 k (by omega) h0
  exact ⟨ad, h1, h2⟩

end Go.Proofs.Ytnafocbgapianaa
