import Derived.Test.YtnafocbgapianabB4
namespace Go.Proofs.Ytnafocbgapianab
open Go.RowKit

section
variable {P : Program} (w : World)

/-- append of a list to nil. -/
theorem run_append_copy (t ty e : TypeId) (i : TypeInfo) (z : Value) (size bytes : Nat) (ht : P.underlying t = some (.slice e)) (hi : P.info? e = some i) (hz : i.zero = some z)
    (hsize : i.size = size) (hby : i.bytes = bytes) (hzs : z.cells.size = size) (hsz : 0 < size) (p : Option Addr) (m c : Nat) (xs : List Value) (hl : xs.length = m * size)
    (hx : 0 < m → ∃ ad, p = some ad ∧ ∀ j u, xs[j]? = some u → w.cell? (ad.add j) = some u) (h1 : ∀ u ∈ xs, u.oneCell' = true) (h63 : m ≤ maxLen) (hbytes : m * bytes ≤ 140737488355328) :
    ∃ v w', (Builtin.append_ #[t, t] ty #[.slice none 0 0, .slice p m c]).run P w = .ok v w' ∧ w'.ownsRow w.heap.size e size v m xs ∧ w.grownBy w' none := by
  by_cases hm : m = 0
  · subst hm
    have hx0 : xs = [] := List.length_eq_zero_iff.1 (by simpa using hl)
    subst hx0
    refine ⟨.slice none 0 0, w, ?_, World.ownsRow_nil _ _ _ _, ⟨rfl, rfl, rfl, Nat.le_refl _, fun _ _ _ => rfl⟩⟩
    rcases p with _ | ad
    · cases c <;> simp [Builtin.append_, run_underlying ht, sizeOf, typeInfo, hi, Builtin.lenOf, Builtin.firstCells]
    · have hf := run_firstCells_some (P := P) w i.size 0 ad 0 c [] (by simp) (by simp)
      simp [Builtin.append_, run_underlying ht, sizeOf, typeInfo, hi, Builtin.lenOf, hf]
  · obtain ⟨ad, rfl, hc⟩ := hx (by omega)
    obtain ⟨g, cap, w', hr, h2, h3, _, _⟩ := run_append_lies (P := P) w t ty w.heap.size e i z size bytes ht hi hz hsize hby hzs hsz (.slice none 0 0) 0 [] (World.ownsRow_nil _ _ _ _) ad m c xs hl hc h1 (by omega) (by omega) (by simpa using hbytes) (Nat.le_refl _) w.heap.size rfl
    refine ⟨_, w', hr, by simpa using h2, h3⟩

theorem wpList_append_copy {ops : Array Oper} {rest : List Oper} {o : Oper} {a : Act} {Q : Exit → Act → World → Prop} (hgd : o.guard = none) (s x : Operand) (t : TypeId)
    (ho : o.op = .call { callee := .builtin .append, args := #[s, x], argTypes := #[t, t] })
    (e : TypeId) (i : TypeInfo) (z : Value) (size bytes : Nat) (ht : P.underlying t = some (.slice e)) (hi : P.info? e = some i) (hz : i.zero = some z)
    (hsize : i.size = size) (hby : i.bytes = bytes) (hzs : z.cells.size = size) (hsz : 0 < size) (hs : a.eval s = .slice none 0 0) (p : Option Addr) (m c : Nat) (xs : List Value) (hx : a.eval x = .slice p m c) (hl : xs.length = m * size)
    (hc : 0 < m → ∃ ad, p = some ad ∧ ∀ j u, xs[j]? = some u → w.cell? (ad.add j) = some u) (h1 : ∀ u ∈ xs, u.oneCell' = true) (h63 : m ≤ maxLen) (hbytes : m * bytes ≤ 140737488355328)
    (h : ∀ v w', w'.ownsRow w.heap.size e size v m xs → w.grownBy w' none → wpList P ops Q rest (a.put o.dst v) w') : wpList P ops Q (o :: rest) a w := by
  refine wpList_plain hgd fun K hK => ?_
  obtain ⟨v, w', hr, h2, h3⟩ := run_append_copy (P := P) w t o.type e i z size bytes ht hi hz hsize hby hzs hsz p m c xs hl hc h1 h63 hbytes
  unfold Oper.wp execOp
  simp only [ho, resolve, invoke, builtin, Sem.run_bind, Sem.run_pure, Result.andThen_ok, List.map_toArray, List.map_cons, List.map_nil, hs, hx, hr]
  exact hK _ _ (h v w' h2 h3)
end

theorem spIn_cells {w : World} {p : Option Addr} {l : List (Nat × Nat)} (h : SpIn w p (castL l)) : 0 < l.length → ∃ ad, p = some ad ∧ ∀ j u, (spCells l)[j]? = some u → w.cell? (ad.add j) = some u := by
  intro h0
  obtain ⟨b, o, rfl, hb, hc⟩ := h (by rw [castL_len]; exact h0)
  refine ⟨_, rfl, ?_⟩
  intro j u hj
  have hjl := (List.getElem?_eq_some_iff.1 hj).1
  rw [spCells_len] at hjl
  have hadd : (⟨b, o, none⟩ : Addr).add j = ⟨b, o + j, none⟩ := by unfold Addr.add; split <;> simp_all
  rw [hadd]
  have hi : j / 2 < l.length := by omega
  obtain ⟨c0, c1⟩ := hc (j / 2) (by rw [castL_len]; exact hi)
  obtain ⟨s0, s1⟩ := spCells_get l (j / 2) hi
  rw [castL_get, List.getD_eq_getElem?_getD, List.getElem?_eq_getElem hi] at c0 c1
  simp only [Option.getD_some] at c0 c1
  rcases Nat.mod_two_eq_zero_or_one j with hm | hm
  · rw [show j / 2 * 2 = j by omega] at c0 s0
    rw [s0] at hj
    rw [c0]; exact hj
  · rw [show o + j / 2 * 2 + 1 = o + j by omega] at c1
    rw [show j / 2 * 2 + 1 = j by omega] at s1
    rw [s1] at hj
    rw [c1]; exact hj

theorem spCells_ones (l : List (Nat × Nat)) : ∀ u ∈ spCells l, u.oneCell' = true := by
  intro u hu
  unfold spCells at hu
  rw [List.mem_flatMap] at hu
  obtain ⟨s, _, hs⟩ := hu
  simp [spCell] at hs
  rcases hs with rfl | rfl <;> rfl

set_option maxHeartbeats 1000000 in
theorem copySpans_any (w : World) (p : Option Addr) (cap : Nat) (l : List (Nat × Nat)) (h : SpIn w p (castL l)) (hl : l.length ≤ 2000) :
    Calls Try.prog 13 #[.slice p l.length cap] w fun e w' => ∃ v, e = .returned v ∧ SpAt w' w.heap.size v l ∧ Keeps (fun k => w.heap.size ≤ k) w w' := by
  obtain ⟨i0, hi, hz0, hz1, hz2⟩ := info_parts info31
  have HC := Hid.mk' (spIn_cells h)
  have HL := Hid.mk' (spCells_len l)
  clear h
  go_enter Try.func13, Try.ntmps13
  go_wp2_with (first
    | (at_builtin; go_must (refine wpList_append_copy _ rfl _ _ 30 rfl 46 i0 (.agg #[.int .i64 0, .int .i64 0]) 2 16 Try.underlying30 hi hz0 hz1 hz2 rfl (by decide) rfl p l.length cap (spCells l) rfl HL.out HC.out (spCells_ones l) (by unfold maxLen; omega) (by omega) ?_); intro v2 w2 hown2 hgrow2))
  go_ret
  exact ⟨_, rfl, hown2, Keeps.of hgrow2 (by simp)⟩

set_option maxHeartbeats 1000000 in
theorem sameSpans_yes (w : World) (p q : Option Addr) (ca cb : Nat) (l : List (Nat × Nat)) (h : SpIn w p (castL l)) (h2 : SpIn w q (castL l)) (hl : l.length ≤ 2000) :
    Calls Try.prog 18 #[.slice p l.length ca, .slice q l.length cb] w fun e w' => e = .returned (.bool true) ∧ ∃ m, w' = w.drewN m := by
  have HP := Hid.mk' h
  have HQ := Hid.mk' h2
  clear h h2
  go_enter Try.func18, Try.ntmps18
  go_wp2
  go_loopw [5] (fun iv wr => ∃ (i : Nat) (m : Nat), i ≤ l.length ∧ iv = .int .i64 i ∧ wr = w.drewN m) (fun iv _ => l.length - (intOf iv).toNat)
  case atStart => exact ⟨0, 0, by omega, rfl, rfl⟩
  case round =>
    obtain ⟨i, m, hi, rfl, rfl⟩ := hrel
    by_cases hlt : i < l.length
    · have hlt' : (i : Int) < (l.length : Int) := by omega
      have hi0 : (0 : Int) ≤ (i : Int) := by omega
      obtain ⟨b, o, rfl, hb, hc⟩ := HP.out (by rw [castL_len]; omega)
      obtain ⟨b2, o2, rfl, hb2, hc2⟩ := HQ.out (by rw [castL_len]; omega)
      obtain ⟨e1, e2⟩ := hc i (by rw [castL_len]; exact hlt)
      obtain ⟨e3, e4⟩ := hc2 i (by rw [castL_len]; exact hlt)
      generalize (castL l).getD i (0, 0) = s at *
      obtain ⟨f, n⟩ := s
      simp only at e1 e2 e3 e4
      clear hc hc2
      go_wp2
      go_quiet (fail)
      go_wp2
      go_roundw
      case rel => exact ⟨i + 1, m + nq, by omega, by go_num, by simp⟩
      case measure => simp [intOf]; omega
    · have hlt' : ¬ (i : Int) < (l.length : Int) := by omega
      go_wp2
      go_ret
      exact ⟨rfl, m, rfl⟩

/-- Rising spans are what NewPool takes. -/
theorem gsp_sp (f : Nat → Bool) (pages : Nat) : ∀ n lo, lo + n ≤ pages → ∀ d : Int, d ≤ lo → gsp pages d (castL (sp f lo n)) = true := by
  intro n
  induction n using Nat.strongRecOn with
  | _ n ih =>
    intro lo hl d hd
    cases n with
    | zero => rfl
    | succ n =>
      cases h0 : f lo with
      | false =>
        rw [sp_skip n h0]
        exact ih n (by omega) (lo + 1) (by omega) d (by omega)
      | true =>
        obtain ⟨k, hk1, hk2, hk3, hk4⟩ : ∃ k, 1 ≤ k ∧ k ≤ n + 1 ∧ (∀ i, i < k → f (lo + i) = true) ∧ (n + 1 - k = 0 ∨ f (lo + k) = false) := by
          have : ∀ j, j ≤ n → (∃ k, 1 ≤ k ∧ k ≤ n + 1 ∧ (∀ i, i < k → f (lo + i) = true) ∧ (n + 1 - k = 0 ∨ f (lo + k) = false)) ∨ (∀ i, i ≤ j → f (lo + i) = true) := by
            intro j
            induction j with
            | zero => intro _; right; intro i hi; obtain rfl : i = 0 := by omega
                      exact h0
            | succ j ihj =>
              intro hj
              rcases ihj (by omega) with h | h
              · exact Or.inl h
              · cases hf : f (lo + (j + 1)) with
                | false => exact Or.inl ⟨j + 1, by omega, by omega, fun i hi => h i (by omega), Or.inr hf⟩
                | true => right; intro i hi
                          by_cases he : i = j + 1
                          · rw [he]; exact hf
                          · exact h i (by omega)
          rcases this n (Nat.le_refl _) with h | h
          · exact h
          · exact ⟨n + 1, by omega, by omega, fun i hi => h i (by omega), Or.inl (by omega)⟩
        rw [show n + 1 = k + (n + 1 - k) by omega, sp_run hk1 hk3 hk4]
        simp only [castL, List.map_cons, gsp]
        rw [if_neg (by omega)]
        exact ih (n + 1 - k) (by omega) (lo + k) (by omega) _ (by omega)

theorem inSp_pages (l : List (Nat × Nat)) (j : Nat) : inSp (castL l) j = decide (j ∈ pagesOf l) := by
  induction l with
  | nil => rfl
  | cons s l ih =>
    unfold inSp castL at ih ⊢
    rw [List.map_cons, List.any_cons, ih]
    have e1 : ((s.1 : Int) ≤ (j : Int)) ↔ s.1 ≤ j := by omega
    have e2 : ((j : Int) < (s.1 : Int) + (s.2 : Int)) ↔ j < s.1 + s.2 := by omega
    have e3 : pagesOf (s :: l) = List.range' s.1 s.2 ++ pagesOf l := by simp [pagesOf]
    rw [e3]
    by_cases h1 : s.1 ≤ j
    · by_cases h2 : j < s.1 + s.2
      · simp [e1, e2, h1, h2, List.mem_range'_1]
      · simp [e1, e2, h1, h2, List.mem_range'_1]
    · simp [e1, h1, List.mem_range'_1]

theorem inSp_sp {s : Sh} {S : Nat → Bool} (hs : ∀ i, S i = true → s.data ≤ i ∧ i < s.pages) : inSp (castL (sp S 0 s.pages)) = S := by
  funext j
  rw [inSp_pages, sp_pages]
  cases hS : S j with
  | false => apply decide_eq_false; rw [mem_fl]; simp [hS]
  | true => apply decide_eq_true; rw [mem_fl]; have := hs j hS; exact ⟨by omega, by omega, hS⟩

theorem gsp_all {s : Sh} (hg : s.Good) {S : Nat → Bool} (hs : ∀ i, S i = true → s.data ≤ i ∧ i < s.pages) : gsp s.pages s.data (castL (sp S 0 s.pages)) = true := by
  have h9 := hg.2.2.2.2.2.2.2.2
  have : sp S 0 s.pages = sp S s.data (s.pages - s.data) := by
    rw [show s.pages = s.data + (s.pages - s.data) by omega]
    unfold sp
    rw [fl_add, fl_none (fun i _ h2 => by
      cases hx : S i with
      | false => rfl
      | true => have := hs i hx; omega)]
    simp
  rw [this]
  exact gsp_sp S s.pages _ _ (by omega) _ (by omega)

/-- NewPool of the spans of a pool. -/
theorem newPool_of (s : Sh) (hg : s.Good) (S : Nat → Bool) (hs : ∀ i, S i = true → s.data ≤ i ∧ i < s.pages) (w : World) (p : Option Addr) (cap : Nat) (h : SpIn w p (castL (sp S 0 s.pages))) :
    Calls Try.prog 10 #[s.agg, .slice p (sp S 0 s.pages).length cap] w fun e w' => ∃ d, e = .returned (.tuple #[.pointer (some ⟨d, 0, none⟩), .int .i64 0]) ∧ w.heap.size ≤ d ∧ PoolAt w' d s S ∧ Keeps (fun k => w.heap.size ≤ k) w w' := by
  have hb := sp_bd S 0 s.pages
  have hp := hg.2.1
  have := newPool_yes s hg w p cap (castL (sp S 0 s.pages)) h (by rw [castL_len]; unfold maxLen; omega) (by
    intro t ht
    unfold castL at ht
    rw [List.mem_map] at ht
    obtain ⟨q, hq, rfl⟩ := ht
    have := hb.1 q hq
    simp; omega) (gsp_all hg hs)
  rw [castL_len, inSp_sp hs] at this
  exact this

end Go.Proofs.Ytnafocbgapianab
