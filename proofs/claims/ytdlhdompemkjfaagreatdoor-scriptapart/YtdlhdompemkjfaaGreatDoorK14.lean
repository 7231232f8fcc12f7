import Derived.Test.YtdlhdompemkjfaaGreatDoorK13
namespace Go.Proofs.YtdlhdompemkjfaaGreatDoor
open Go.RowKit Go.Maps
set_option maxRecDepth 100000

section
variable {P : Program} {w : World}
/-- append of a list, of nothing too, to a row of the call's own. -/
theorem run_append_any (base : Nat) (t ty e : TypeId) (i : TypeInfo) (z : Value) (size bytes : Nat) (ht : P.underlying t = some (.slice e)) (hi : P.info? e = some i) (hz : i.zero = some z)
    (hsize : i.size = size) (hby : i.bytes = bytes) (hzs : z.cells.size = size) (hsz : 0 < size) (v : Value) (n : Nat) (xs : List Value) (hown : w.ownsRow base e size v n xs) (p : Option Addr) (m c : Nat) (news : List Value) (hl : news.length = m * size)
    (hx : 0 < m → ∃ ad, p = some ad ∧ ∀ j u, news[j]? = some u → w.cell? (ad.add j) = some u) (h1 : ∀ u ∈ news, u.oneCell' = true) (h63 : n + m ≤ maxLen) (hbytes : (n + m) * bytes ≤ 140737488355328) (hbase : base ≤ w.heap.size) :
    ∃ v' w', (Builtin.append_ #[t, t] ty #[v, .slice p m c]).run P w = .ok v' w' ∧ w'.ownsRow base e size v' (n + m) (xs ++ news) ∧ w.grownBy w' v.ownBlock := by
  rcases p with _ | ad
  · have hm : m = 0 := by
      rcases Nat.eq_zero_or_pos m with h | h
      · exact h
      · obtain ⟨ad, h2, _⟩ := hx h; cases h2
    subst hm
    have hx0 : news = [] := List.length_eq_zero_iff.1 (by simpa using hl)
    subst hx0
    have hsame : w.grownBy w v.ownBlock := ⟨rfl, rfl, rfl, Nat.le_refl _, fun _ _ _ => rfl⟩
    refine ⟨v, w, ?_, by simpa using hown, hsame⟩
    rcases hown.2 with ⟨rfl, _⟩ | ⟨g, cap, cur, rfl, _, _, hle, _⟩
    · cases c <;> simp [Builtin.append_, run_underlying ht, sizeOf, typeInfo, hi, Builtin.lenOf, Builtin.firstCells]
    · cases c <;> simp [Builtin.append_, run_underlying ht, sizeOf, typeInfo, hi, Builtin.lenOf, Builtin.firstCells, hle, storeCells]
  · have hnews : ∀ j u, news[j]? = some u → w.cell? (ad.add j) = some u := by
      rcases Nat.eq_zero_or_pos m with h | h
      · subst h
        have hx0 : news = [] := List.length_eq_zero_iff.1 (by simpa using hl)
        intro j u hj; rw [hx0] at hj; simp at hj
      · obtain ⟨ad', h2, h3⟩ := hx h
        cases h2; exact h3
    obtain ⟨v', w', hr, h2, h3, _, _⟩ := run_append_own_at (P := P) w base t ty e i z size bytes ht hi hz hsize hby hzs hsz v n xs hown ad m c news hl hnews h1 h63 hbytes hbase
    exact ⟨v', w', hr, h2, h3⟩

theorem wpList_append_any {ops : Array Oper} {rest : List Oper} {o : Oper} {a : Act} {Q : Exit → Act → World → Prop} (hgd : o.guard = none) (s x : Operand) (t : TypeId)
    (ho : o.op = .call { callee := .builtin .append, args := #[s, x], argTypes := #[t, t] }) (base : Nat)
    (e : TypeId) (i : TypeInfo) (z : Value) (size bytes : Nat) (ht : P.underlying t = some (.slice e)) (hi : P.info? e = some i) (hz : i.zero = some z)
    (hsize : i.size = size) (hby : i.bytes = bytes) (hzs : z.cells.size = size) (hsz : 0 < size) (v : Value) (n : Nat) (xs : List Value) (hs : a.eval s = v) (hown : w.ownsRow base e size v n xs) (p : Option Addr) (m c : Nat) (news : List Value) (hx : a.eval x = .slice p m c) (hl : news.length = m * size)
    (hc : 0 < m → ∃ ad, p = some ad ∧ ∀ j u, news[j]? = some u → w.cell? (ad.add j) = some u) (h1 : ∀ u ∈ news, u.oneCell' = true) (h63 : n + m ≤ maxLen) (hbytes : (n + m) * bytes ≤ 140737488355328) (hbase : base ≤ w.heap.size)
    (h : ∀ v' w', w'.ownsRow base e size v' (n + m) (xs ++ news) → w.grownBy w' v.ownBlock → wpList P ops Q rest (a.put o.dst v') w') : wpList P ops Q (o :: rest) a w := by
  refine wpList_plain hgd fun K hK => ?_
  obtain ⟨v', w', hr, h2, h3⟩ := run_append_any (P := P) (w := w) base t o.type e i z size bytes ht hi hz hsize hby hzs hsz v n xs hown p m c news hl hc h1 h63 hbytes hbase
  unfold Oper.wp execOp
  simp only [ho, resolve, invoke, builtin, Sem.run_bind, Sem.run_pure, Result.andThen_ok, List.map_toArray, List.map_cons, List.map_nil, hs, hx, hr]
  exact hK _ _ (h v' w' h2 h3)

end
theorem strs_len (l : List ByteArray) : (strs l).length = l.length := by simp [strs]
theorem strs_one (l : List ByteArray) : ∀ u ∈ strs l, u.oneCell' = true := by
  intro u hu
  obtain ⟨x, _, rfl⟩ := List.mem_map.1 hu
  rfl
/-- append of texts, of none too, to texts of one's own. -/
theorem wpList_appl {ops : Array Oper} {rest : List Oper} {o : Oper} {a : Act} {Q : Exit → Act → World → Prop} (hgd : o.guard = none) (s x : Operand)
    (ho : o.op = .call { callee := .builtin .append, args := #[s, x], argTypes := #[55, 55] }) (w W : World) (v : Value) (l : List ByteArray) (hs : a.eval s = v) (h : SR w W v l) (z : Value) (m : List ByteArray)
    (hx : a.eval x = z) (hz : Row W z m.length (strs m)) (hl : l.length + m.length ≤ 1000000000)
    (K : ∀ v' W', SR w W' v' (l ++ m) → wpList Tryz.prog ops Q rest (a.put o.dst v') W') : wpList Tryz.prog ops Q (o :: rest) a W := by
  obtain ⟨i0, hi, hz0, hz1, hz2⟩ := info_parts info9
  obtain ⟨p, c, rfl, _, hc⟩ := hz
  refine wpList_append_any hgd s x 55 ho w.heap.size 9 i0 (.string ⟨#[]⟩) 1 16 Tryz.underlying55 hi hz0 hz1 hz2 rfl (by decide) v l.length (strs l) hs h.1 p m.length c (strs m) hx (by rw [strs_len, Nat.mul_one]) ?_ (strs_one m) (by unfold maxLen; omega) (by omega) h.2.size ?_
  · intro h0
    obtain ⟨b, o, rfl, _, hcell⟩ := hc h0
    exact ⟨_, rfl, fun j u hj => by rw [addr_add]; exact hcell j u hj⟩
  · intro v' W' hown hgr
    refine K v' W' ⟨?_, ?_⟩
    · have : strs (l ++ m) = strs l ++ strs m := by simp [strs]
      rw [this, List.length_append]; exact hown
    · exact h.2.step hgr (fun k hk => Or.inr ((h.1.lt k hk).1))
theorem tell_any (a : Ar) (w : World) (hv : Vars w) (t : St) (v : Value) (hr : Row w v t.l.length (ints t.l)) (ho : OkS t) :
    Calls Tryz.prog a.tl #[.agg (scell t v)] w fun e w' => ∃ v', e = .returned v' ∧ Hid (SR w w' v' (tlF a t)) := by
  cases a with
  | A => exact tellA_any w hv t v hr ho
  | B => exact tellB_any w hv t v hr ho
  | N => exact tellN_any w hv t v hr ho
  | M => exact tellM_any w hv t v hr ho
  | K => exact tellK_any w hv t v hr ho
  | L => exact tellL_any w hv t v hr ho
theorem tlF_len (a : Ar) (t : St) : (tlF a t).length ≤ 1 + t.l.length := by
  cases a <;> simp [tlF, nums10] <;> omega
/-- The words that a kind's arguments tell. -/
def tells (l : List Ar) (t : St) : List ByteArray := l.flatMap fun a => tlF a t
theorem tells_take {l : List Ar} {k : Nat} {a : Ar} (t : St) (h : l[k]? = some a) : tells (l.take (k + 1)) t = tells (l.take k) t ++ tlF a t := by
  unfold tells
  rw [List.take_add_one, h, List.flatMap_append]
  simp
theorem tells_len (t : St) : ∀ l : List Ar, (tells l t).length ≤ l.length * (1 + t.l.length)
  | [] => by simp [tells]
  | a :: l => by
    have h1 := tells_len t l
    have h2 := tlF_len a t
    have e : tells (a :: l) t = tlF a t ++ tells l t := by simp [tells]
    rw [e, List.length_append, List.length_cons, Nat.add_mul]
    omega
/-- The kind that has a step's number, and the line that it makes. -/
def numOf (n : Int) : Option Kd := kds.find? fun k => k.num == n
def line (k : Kd) (t : St) : Bs := Lib.join ((k.word :: tells k.args t).map (·.data.toList)) [32]
def wrF (t : St) : Bs := match numOf t.kind with
  | none => []
  | some k => line k t
end Go.Proofs.YtdlhdompemkjfaaGreatDoor
