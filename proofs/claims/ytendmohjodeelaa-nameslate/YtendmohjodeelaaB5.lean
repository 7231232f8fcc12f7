import Derived.Test.YtendmohjodeelaaB4
namespace Go.Proofs.Ytendmohjodeelaa
open Go.RowKit Go.Maps Go.Great Go.Sort Go.Shelf

section
variable {P : Program} (w : World)

/-- append of a list, of nothing too, to a row of the call's own. -/
theorem run_append_any (base : Nat) (t ty e : TypeId) (i : TypeInfo) (z : Value) (size bytes : Nat) (ht : P.underlying t = some (.slice e)) (hi : P.info? e = some i) (hz : i.zero = some z)
    (hsize : i.size = size) (hby : i.bytes = bytes) (hzs : z.cells.size = size) (hsz : 0 < size) (v : Value) (n : Nat) (xs : List Value) (hown : w.ownsRow base e size v n xs) (p : Option Addr) (m c : Nat) (news : List Value) (hl : news.length = m * size)
    (hx : 0 < m → ∃ ad, p = some ad ∧ ∀ j u, news[j]? = some u → w.cell? (ad.add j) = some u) (h1 : ∀ u ∈ news, u.oneCell' = true) (h63 : n + m ≤ maxLen) (hbytes : (n + m) * bytes ≤ 140737488355328) (hbase : base ≤ w.heap.size) :
    ∃ v' w', (Builtin.append_ #[t, t] ty #[v, .slice p m c]).run P w = .ok v' w' ∧ w'.ownsRow base e size v' (n + m) (xs ++ news) ∧ w.grownBy w' v.ownBlock := by
  rcases p with _ | ad
  · have hm : m = 0 := by
      rcases Nat.eq_zero_or_pos m with h | h
      · exact h
      · obtain ⟨ad, h2, _⟩ := hx h; cases h2
    subst hm
    have hx0 : news = [] := List.length_eq_zero_iff.1 (by simpa using hl)
    subst hx0
    have hsame : w.grownBy w v.ownBlock := ⟨rfl, rfl, rfl, Nat.le_refl _, fun _ _ _ => rfl⟩
    refine ⟨v, w, ?_, by simpa using hown, hsame⟩
    rcases hown.2 with ⟨rfl, _⟩ | ⟨g, cap, cur, rfl, _, _, hle, _⟩
    · cases c <;> simp [Builtin.append_, run_underlying ht, sizeOf, typeInfo, hi, Builtin.lenOf, Builtin.firstCells]
    · cases c <;> simp [Builtin.append_, run_underlying ht, sizeOf, typeInfo, hi, Builtin.lenOf, Builtin.firstCells, hle, storeCells]
  · have hnews : ∀ j u, news[j]? = some u → w.cell? (ad.add j) = some u := by
      rcases Nat.eq_zero_or_pos m with h | h
      · subst h
        have hx0 : news = [] := List.length_eq_zero_iff.1 (by simpa using hl)
        intro j u hj; rw [hx0] at hj; simp at hj
      · obtain ⟨ad', h2, h3⟩ := hx h
        cases h2; exact h3
    obtain ⟨v', w', hr, h2, h3, _, _⟩ := run_append_own_at (P := P) w base t ty e i z size bytes ht hi hz hsize hby hzs hsz v n xs hown ad m c news hl hnews h1 h63 hbytes hbase
    exact ⟨v', w', hr, h2, h3⟩

theorem wpList_append_any {ops : Array Oper} {rest : List Oper} {o : Oper} {a : Act} {Q : Exit → Act → World → Prop} (hgd : o.guard = none) (s x : Operand) (t : TypeId)
    (ho : o.op = .call { callee := .builtin .append, args := #[s, x], argTypes := #[t, t] }) (base : Nat)
    (e : TypeId) (i : TypeInfo) (z : Value) (size bytes : Nat) (ht : P.underlying t = some (.slice e)) (hi : P.info? e = some i) (hz : i.zero = some z)
    (hsize : i.size = size) (hby : i.bytes = bytes) (hzs : z.cells.size = size) (hsz : 0 < size) (v : Value) (n : Nat) (xs : List Value) (hs : a.eval s = v) (hown : w.ownsRow base e size v n xs) (p : Option Addr) (m c : Nat) (news : List Value) (hx : a.eval x = .slice p m c) (hl : news.length = m * size)
    (hc : 0 < m → ∃ ad, p = some ad ∧ ∀ j u, news[j]? = some u → w.cell? (ad.add j) = some u) (h1 : ∀ u ∈ news, u.oneCell' = true) (h63 : n + m ≤ maxLen) (hbytes : (n + m) * bytes ≤ 140737488355328) (hbase : base ≤ w.heap.size)
    (h : ∀ v' w', w'.ownsRow base e size v' (n + m) (xs ++ news) → w.grownBy w' v.ownBlock → wpList P ops Q rest (a.put o.dst v') w') : wpList P ops Q (o :: rest) a w := by
  refine wpList_plain hgd fun K hK => ?_
  obtain ⟨v', w', hr, h2, h3⟩ := run_append_any (P := P) w base t o.type e i z size bytes ht hi hz hsize hby hzs hsz v n xs hown p m c news hl hc h1 h63 hbytes hbase
  unfold Oper.wp execOp
  simp only [ho, resolve, invoke, builtin, Sem.run_bind, Sem.run_pure, Result.andThen_ok, List.map_toArray, List.map_cons, List.map_nil, hs, hx, hr]
  exact hK _ _ (h v' w' h2 h3)

end

/-- A row of names and inodes of one's own. -/
def RowD (w : World) (base : Nat) (v : Value) (l : List De) : Prop := w.ownsRow base 30 2 v l.length (dcells l)
theorem RowD.dsl {w : World} {base : Nat} {v : Value} {l : List De} (h : RowD w base v l) : DSl w v l := DSl.of_row h rfl
theorem RowD.keep {w w' : World} {base : Nat} {v : Value} {l : List De} (h : RowD w base v l) {X : Nat → Prop} (k : Keeps X w w') (hx : ∀ i, X i → i < base) : RowD w' base v l := by
  rcases h.2 with ⟨rfl, h0⟩ | ⟨g, cap, cur, rfl, hg, hb, h1⟩
  · exact ⟨h.1, Or.inl ⟨rfl, h0⟩⟩
  · exact ⟨h.1, Or.inr ⟨g, cap, cur, rfl, hg, k.at hb (fun hxg => by have := hx g hxg; omega), h1⟩⟩
theorem RowD.grown {w w' : World} {base : Nat} {v : Value} {l : List De} (h : RowD w base v l) (k : Keeps (fun _ => False) w w') : RowD w' base v l := h.keep k (fun _ h => h.elim)
theorem DSl.cells {w : World} {v : Value} {l : List De} (h : DSl w v l) : ∃ p cap, v = .slice p l.length cap ∧ (0 < l.length → ∃ ad, p = some ad ∧ ∀ j u, (dcells l)[j]? = some u → w.cell? (ad.add j) = some u) := by
  rcases h with ⟨rfl, p, cap, rfl⟩ | ⟨g, o, cap, rfl, hg, hc⟩
  · exact ⟨p, cap, rfl, fun h => absurd h (by simp)⟩
  · refine ⟨_, cap, rfl, fun _ => ⟨_, rfl, fun j u hj => ?_⟩⟩
    have hadd : (⟨g, o, none⟩ : Addr).add j = ⟨g, o + j, none⟩ := by
      unfold Addr.add
      split
      · rename_i h; rw [h]; rfl
      · rfl
    rw [hadd]; exact hc j u hj
theorem dcells_one (l : List De) : ∀ u ∈ dcells l, u.oneCell' = true := by
  intro u hu
  simp only [dcells, List.mem_flatMap, encD] at hu
  obtain ⟨x, _, hx⟩ := hu
  simp at hx
  rcases hx with rfl | rfl <;> rfl

set_option maxHeartbeats 1000000 in
theorem copy_any (w : World) (v : Value) (l : List De) (h : DSl w v l) (hn : l.length < 5000000000000) :
    Calls Try.prog 20 #[v] w fun e w' => ∃ v', e = .returned v' ∧ Hid (RowD w' w.heap.size v' l ∧ Keeps (fun _ => False) w w') := by
  obtain ⟨i0, hi, hz0, hz1, hz2⟩ := info_parts info30
  obtain ⟨p, cap, rfl, hc⟩ := h.cells
  have HC : Hid (0 < l.length → ∃ ad, p = some ad ∧ ∀ j u, (dcells l)[j]? = some u → w.cell? (ad.add j) = some u) := hc
  clear hc h
  go_enter Try.func20, Try.ntmps20
  go_wp2_with (first
    | (at_builtin; go_must (refine wpList_append_any _ rfl _ _ 26 rfl w.heap.size 30 i0 (.agg #[.string ⟨#[]⟩, .int .i64 0]) 2 24 Try.underlying26 hi hz0 hz1 hz2 rfl (by decide) (.slice none 0 0) 0 [] rfl (World.ownsRow_nil _ _ _ _) p l.length cap (dcells l) rfl (dcells_len l) HC.out (dcells_one l) (by unfold maxLen; omega) (by omega) (Nat.le_refl _) ?_); intro v' w1 hown hgr))
  go_ret
  refine ⟨v', rfl, ?_, (Keeps.refl _ w).step hgr (by simp [Value.ownBlock])⟩
  unfold RowD
  simpa using hown

/-! The steps of a script. -/
structure OpT where
  k : Int
  a : Int
  b : Int
  d : Int
  s : ByteArray
  i : Int
def opZ : OpT := ⟨0, 0, 0, 0, ByteArray.empty, 0⟩
def opCells (t : OpT) : List Value := [.int .i64 t.k, .int .i64 t.a, .int .i64 t.b, .int .i64 t.d, .string t.s, .int .i64 t.i]
/-- A list of steps that lies in memory. -/
def OpIn (w : World) (p : Option Addr) (l : List OpT) : Prop :=
  0 < l.length → ∃ b o, p = some ⟨b, o, none⟩ ∧ b < w.heap.size ∧ ∀ i, i < l.length → ∀ j u, (opCells (l.getD i opZ))[j]? = some u → w.cell? ⟨b, o + i * 6 + j, none⟩ = some u
theorem OpIn.keep {w w' : World} {p : Option Addr} {l : List OpT} (h : OpIn w p l) {X : Nat → Prop} (k : Keeps X w w') (hx : ∀ i, X i → w.heap.size ≤ i) : OpIn w' p l := by
  intro h0
  obtain ⟨b, o, e, hb, hc⟩ := h h0
  exact ⟨b, o, e, Nat.lt_of_lt_of_le hb k.size, fun i hi j u hj => k.cell (hc i hi j u hj) (fun hxb => by have := hx b hxb; omega)⟩

def fillS (l : List OpT) : List Rw := l.foldl (fun S t => putS S (inoF t.d) t.s (inoF t.i)) []
theorem fill_snoc (l : List OpT) (t : OpT) : fillS (l ++ [t]) = putS (fillS l) (inoF t.d) t.s (inoF t.i) := by simp [fillS, List.foldl_append]
theorem take_getD {α : Type} (z : α) {l : List α} {k : Nat} (h : k < l.length) : l.take (k + 1) = l.take k ++ [l.getD k z] := by
  rw [List.take_succ_eq_append_getElem h]
  simp [List.getD_eq_getElem?_getD, h]
theorem fill_len : ∀ (l : List OpT) (S : List Rw), (l.foldl (fun S t => putS S (inoF t.d) t.s (inoF t.i)) S).length ≤ S.length + l.length
  | [], S => Nat.le_refl _
  | t :: l, S => by
    rw [List.foldl_cons]
    have h1 := fill_len l (putS S (inoF t.d) t.s (inoF t.i))
    have h2 := putS_len S (inoF t.d) t.s (inoF t.i)
    simp only [List.length_cons]; omega

set_option maxHeartbeats 2000000 in
theorem filled_any (w : World) (p : Option Addr) (cap : Nat) (l : List OpT) (hp : OpIn w p l) (hn : l.length < 3000000000000) :
    Calls Try.prog 10 #[.slice p l.length cap] w fun e w' => e = .returned (.pointer (some ⟨w.heap.size + 1, 0, none⟩)) ∧ Hid (IxAt w' (w.heap.size + 1) w.heap.size (fillS l) ∧ Keeps (fun _ => False) w w') := by
  have h17 := (new_any w).mono (R' := fun e w' => e = .returned (.pointer (some ⟨w.heap.size + 1, 0, none⟩)) ∧ Hid (IxAt w' (w.heap.size + 1) w.heap.size []) ∧ Hid (Keeps (fun _ => False) w w')) (fun e w' ⟨a, b⟩ => ⟨a, b.out.1, b.out.2.1⟩)
  have HP : Hid (OpIn w p l) := hp
  have h16 := ino_any
  clear hp
  go_enter Try.func10, Try.ntmps10
  go_wp2_with (first
    | (go_at_call 17; refine h17.mono ?_; rintro e w0 ⟨rfl, H0, K0⟩))
  go_loopw [4] (fun i wr => ∃ k : Nat, k ≤ l.length ∧ i = .int .i64 k ∧ Hid (IxAt wr (w.heap.size + 1) w.heap.size (fillS (l.take k)) ∧ Keeps (fun _ => False) w wr)) (fun i _ => l.length - (intOf i).toNat)
  case atStart => exact ⟨0, Nat.zero_le _, rfl, H0.out, K0.out⟩
  case round =>
    obtain ⟨k, hk, rfl, HR⟩ := hrel
    by_cases h1 : k < l.length
    · obtain ⟨b, o, rfl, hb, hc⟩ := HP.out (by omega)
      have c3 := HR.out.2.cell (hc k h1 3 _ rfl) (fun h => h)
      have c4 := HR.out.2.cell (hc k h1 4 _ rfl) (fun h => h)
      have c5 := HR.out.2.cell (hc k h1 5 _ rfl) (fun h => h)
      have HS : Hid (fillS (l.take (k + 1)) = putS (fillS (l.take k)) (inoF (l.getD k opZ).d) (l.getD k opZ).s (inoF (l.getD k opZ).i)) := by
        show _ = _
        rw [take_getD opZ h1, fill_snoc]
      have hlen : (fillS (l.take k)).length < 35184372088832 := by
        have := fill_len (l.take k) []
        simp only [fillS, List.length_nil, List.length_take] at this ⊢; omega
      generalize l.getD k opZ = t at *
      obtain ⟨tk, ta, tb, td, ts, ti⟩ := t
      simp only at c3 c4 c5 HS
      have hbm : b ≠ w.heap.size := by omega
      have h18 : ∀ n, Calls Try.prog 18 #[.pointer (some ⟨w.heap.size + 1, 0, none⟩), .int .i64 (inoF td), .string ts, .int .i64 (inoF ti)] (wr.drewN n) fun e w' => (∃ E : Int, e = .returned (.int .i64 E)) ∧
          Hid (IxAt w' (w.heap.size + 1) w.heap.size (fillS (l.take (k + 1))) ∧ Keeps (fun _ => False) w w') ∧ w'.cell? ⟨b, o + k * 6 + 3, none⟩ = some (.int .i64 td) ∧ w'.cell? ⟨b, o + k * 6 + 4, none⟩ = some (.string ts) ∧ w'.cell? ⟨b, o + k * 6 + 5, none⟩ = some (.int .i64 ti) := by
        intro n
        have hkn := Keeps.drewN (fun _ => False) wr n
        refine (put_any (wr.drewN n) _ _ _ (HR.out.1.keep hkn (fun h => h) (fun h => h)) (inoF td) ts (inoF ti) hlen).mono ?_
        rintro e w' ⟨rfl, H⟩
        refine ⟨⟨_, rfl⟩, ⟨by rw [HS.out]; exact H.out.1, (HR.out.2.trans hkn).then H.out.2 (fun k hk => Or.inr (by omega))⟩, ?_, ?_, ?_⟩
        · exact H.out.2.cell (hkn.cell c3 (fun h => h)) hbm
        · exact H.out.2.cell (hkn.cell c4 (fun h => h)) hbm
        · exact H.out.2.cell (hkn.cell c5 (fun h => h)) hbm
      have h1' : (k : Int) < (l.length : Int) := by omega
      clear hc hlen
      go_wp2
      go_region_held3 (fun wx => wx.cell? ⟨b, o + k * 6 + 3, none⟩ = some (.int .i64 td) ∧ wx.cell? ⟨b, o + k * 6 + 4, none⟩ = some (.string ts) ∧ wx.cell? ⟨b, o + k * 6 + 5, none⟩ = some (.int .i64 ti))
        (first | go_keep)
        (first
          | (go_at_call 18; refine (h18 _).mono ?_; rintro e w2 ⟨⟨E, rfl⟩, H2, x1, x2, x3⟩)
          | (go_at_call 16; refine (h16 _ _).mono ?_; rintro e w2 ⟨rfl, hw2⟩; subst w2))
      all_goals
        go_wp2
        go_roundw
        case rel => exact ⟨k + 1, by omega, by go_num, H2⟩
        case measure => simp [intOf]; omega
    · have h1' : ¬ (k : Int) < (l.length : Int) := by omega
      go_wp2
      go_ret
      have e : l.take k = l := List.take_of_length_le (by omega)
      have := HR.out.1
      rw [e] at this
      exact ⟨rfl, this, HR.out.2⟩

end Go.Proofs.Ytendmohjodeelaa
