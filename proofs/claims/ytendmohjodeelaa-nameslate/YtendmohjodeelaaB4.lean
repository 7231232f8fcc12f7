import Derived.Test.YtendmohjodeelaaB3
namespace Go.Proofs.Ytendmohjodeelaa
open Go.RowKit Go.Maps Go.Great Go.Sort Go.Shelf

theorem rem_pos {c m : Int} (h0 : 0 < m) (h : ¬ c.tmod m < 0) : c.tmod m = c % m := by
  have h1 := Int.emod_eq_tmod (a := c) (b := m)
  have h2 := Int.emod_lt_of_pos c h0
  have h3 := Int.emod_nonneg c (by omega : m ≠ 0)
  have h4 := Int.tmod_lt_of_pos c h0
  split at h1 <;> omega
theorem rem_neg {c m : Int} (h0 : 0 < m) (hm : m ≤ 1000000000000000) (h : c.tmod m < 0) : wrap64 (c.tmod m + m) = c % m := by
  have h1 := Int.emod_eq_tmod (a := c) (b := m)
  have h2 := Int.emod_lt_of_pos c h0
  have h3 := Int.emod_nonneg c (by omega : m ≠ 0)
  have h4 := Int.lt_tmod_of_pos c h0
  rw [wrap64_id (by omega) (by omega)]
  split at h1 <;> omega

set_option maxHeartbeats 400000 in
theorem place_int (c m : Int) (w : World) (h0 : 0 < m) (hm : m ≤ 1000000000000000) :
    Calls Try.prog 23 #[.int .i64 c, .int .i64 m] w fun e w' => e = .returned (.int .i64 (c % m)) ∧ w' = w := by
  go_enter Try.func23, Try.ntmps23
  go_wp2
  · go_ret
    exact ⟨ret_int (rem_neg h0 hm ‹_›), rfl⟩
  · go_ret
    exact ⟨ret_int (rem_pos h0 (by omega)), rfl⟩

def inoF (n : Int) : Int := 1 + n % 256
theorem inoF_bd (n : Int) : 1 ≤ inoF n ∧ inoF n ≤ 256 := by unfold inoF; omega
theorem inoF_is (n : Int) : isIno (inoF n) = true := by have := inoF_bd n; simp [isIno, this]
theorem inoF_wf (n : Int) : (Lit.int .i64 (inoF n)).wf = true := by have := inoF_bd n; exact wf64 (by omega) (by omega)
theorem ino_any (n : Int) (w : World) : Calls Try.prog 16 #[.int .i64 n] w fun e w' => e = .returned (.int .i64 (inoF n)) ∧ w' = w := by
  have h23 := place_int n 256 w (by omega) (by omega)
  have hb : 0 ≤ n % 256 ∧ n % 256 < 256 := by omega
  unfold inoF
  generalize n % 256 = m at h23 hb ⊢
  go_enter Try.func16, Try.ntmps16
  go_wp2_with (first | (go_at_call 23; refine h23.mono ?_; rintro e w1 ⟨rfl, hw1⟩; subst w1))
  go_ret
  exact ⟨rfl, rfl⟩

/-- A slice of names and inodes, read. -/
def DSl (w : World) (v : Value) (l : List De) : Prop :=
  (l = [] ∧ ∃ p cap, v = .slice p 0 cap) ∨ ∃ g o cap, v = .slice (some ⟨g, o, none⟩) l.length cap ∧ g < w.heap.size ∧ ∀ j u, (dcells l)[j]? = some u → w.cell? ⟨g, o + j, none⟩ = some u

theorem DSl.of_row {w : World} {base : Nat} {v : Value} {n : Nat} {l : List De} (h : w.ownsRow base 30 2 v n (dcells l)) (hn : l.length = n) : DSl w v l := by
  subst hn
  rcases h.2 with ⟨rfl, h0⟩ | ⟨g, cap, cur, rfl, _, hb, _, _, _, ht⟩
  · exact Or.inl ⟨List.length_eq_zero_iff.1 h0, none, 0, rfl⟩
  · refine Or.inr ⟨g, 0, cap, rfl, heap_lt hb, fun j u hj => ?_⟩
    have hj' : j < l.length * 2 := by
      rw [← dcells_len]
      rcases Nat.lt_or_ge j (dcells l).length with h1 | h1
      · exact h1
      · rw [List.getElem?_eq_none h1] at hj; cases hj
    rw [Nat.zero_add, h.cellAt j hj', hj]

theorem DSl.keep {w w' : World} {v : Value} {l : List De} (h : DSl w v l) {X : Nat → Prop} (k : Keeps X w w') (hx : ∀ g, v.ownBlock = some g → ¬ X g) : DSl w' v l := by
  rcases h with h | ⟨g, o, cap, rfl, hg, hc⟩
  · exact Or.inl h
  · exact Or.inr ⟨g, o, cap, rfl, Nat.lt_of_lt_of_le hg k.size, fun j u hj => k.cell (hc j u hj) (hx g rfl)⟩
theorem DSl.grown {w w' : World} {v : Value} {l : List De} (h : DSl w v l) (k : Keeps (fun _ => False) w w') : DSl w' v l := h.keep k (fun _ _ h => h)

def dz : De := (ByteArray.empty, 0)
theorem dcells_at (l : List De) (i : Nat) (hi : i < l.length) : (dcells l)[i * 2]? = some (.string (l.getD i dz).1) ∧ (dcells l)[i * 2 + 1]? = some (.int .i64 (l.getD i dz).2) := by
  have e : l.toArray[i]! = l.getD i dz := by
    rw [getElem!_pos l.toArray i (by simpa using hi)]
    simp [List.getD_eq_getElem?_getD, hi]
  constructor
  · rw [dcells_get l (i * 2) (by omega), show i * 2 / 2 = i by omega, show i * 2 % 2 = 0 by omega, e]; rfl
  · rw [dcells_get l (i * 2 + 1) (by omega), show (i * 2 + 1) / 2 = i by omega, show (i * 2 + 1) % 2 = 1 by omega, e]; rfl

theorem DSl.zero {w : World} {v : Value} (h : DSl w v []) : ∃ p cap, v = .slice p 0 cap := by
  rcases h with ⟨_, h⟩ | ⟨g, o, cap, rfl, _⟩
  · exact h
  · exact ⟨_, _, rfl⟩
theorem DSl.pos {w : World} {v : Value} {l : List De} (h : DSl w v l) (h0 : 0 < l.length) : ∃ g o cap, v = .slice (some ⟨g, o, none⟩) l.length cap ∧ g < w.heap.size ∧ ∀ i, i < l.length → w.cell? ⟨g, o + i * 2, none⟩ = some (.string (l.getD i dz).1) ∧ w.cell? ⟨g, o + i * 2 + 1, none⟩ = some (.int .i64 (l.getD i dz).2) := by
  rcases h with ⟨rfl, _⟩ | ⟨g, o, cap, rfl, hg, hc⟩
  · simp at h0
  · exact ⟨g, o, cap, rfl, hg, fun i hi => ⟨hc _ _ (dcells_at l i hi).1, by have := hc _ _ (dcells_at l i hi).2; rwa [← Nat.add_assoc] at this⟩⟩
theorem DSl.shape {w : World} {v : Value} {l : List De} (h : DSl w v l) : ∃ p cap, v = .slice p l.length cap := by
  rcases h with ⟨rfl, p, cap, rfl⟩ | ⟨g, o, cap, rfl, _⟩
  · exact ⟨_, _, rfl⟩
  · exact ⟨_, _, rfl⟩

theorem take_eq_step {α : Type} (z : α) {la lb : List α} {k : Nat} (h1 : k < la.length) (h2 : k < lb.length) (h : la.take k = lb.take k) (e : la.getD k z = lb.getD k z) : la.take (k + 1) = lb.take (k + 1) := by
  rw [List.take_succ_eq_append_getElem h1, List.take_succ_eq_append_getElem h2, h]
  simp [List.getD_eq_getElem?_getD, h1, h2] at e
  rw [e]

set_option maxHeartbeats 400000 in
theorem dent_eql (d : Nat) (a b : De) (w : World) : (Op.equalIn (d + 2) 30 (.agg #[.string a.1, .int .i64 a.2]) (.agg #[.string b.1, .int .i64 b.2])).run Try.prog w = .ok (decide (a = b)) w := by
  rw [run_equalIn_agg w (d + 1) 30 _ _ (by kernel_rfl) (by kernel_rfl)]
  simp only [Program.fieldsOf, Try.underlying30]
  simp [Op.eqFields, part, isAgg, run_underlying Try.underlying3, run_underlying Try.underlying9, Op.equalIn]
  obtain ⟨a1, a2⟩ := a
  obtain ⟨b1, b2⟩ := b
  have hb : (a1 == b1) = decide (a1 = b1) := by rw [Bool.eq_iff_iff, MapKept.bytes_beq]; simp
  by_cases h1 : a1 = b1 <;> by_cases h2 : a2 = b2 <;> simp_all

theorem run_neq30 (a b : De) (w : World) : (binOp .neq 30 (.agg #[.string a.1, .int .i64 a.2]) (.agg #[.string b.1, .int .i64 b.2])).run Try.prog w = .ok (.bool (!decide (a = b))) w := by
  have h := dent_eql 9998 a b w
  rw [show 9998 + 2 = Op.maxDepth from rfl] at h
  simp only [binOp, Op.equal, Sem.run_bind, Sem.run_pure, h, Result.andThen]
theorem exec_neq30 (a b : De) (w : World) (ρ : Operand → Value) (o : Oper) (x y : Operand) (ho : o.op = .binOp .neq 30 x y 30) (hx : ρ x = .agg #[.string a.1, .int .i64 a.2]) (hy : ρ y = .agg #[.string b.1, .int .i64 b.2]) : (execOp ρ o).run Try.prog w = .ok (.value (.bool (!decide (a = b)))) w := by
  have hg := run_eqGuard_agg (P := Try.prog) w .neq 30 x y #[.string a.1, .int .i64 a.2] #[.string b.1, .int .i64 b.2] (by kernel_rfl)
  simp only [execOp, ho, hx, hy, Sem.run_bind, Sem.run_pure, hg, run_neq30 a b w, Result.andThen]
theorem quiet_neq {C : World → Prop} {ops : Array Oper} {Q : Act → Prop} {ac : Act} {o : Oper} {rest : List Oper} (hg : o.guard = none) (x y : Operand) (ho : o.op = .binOp .neq 30 x y 30) (a b : De) (hx : ac.eval x = .agg #[.string a.1, .int .i64 a.2]) (hy : ac.eval y = .agg #[.string b.1, .int .i64 b.2]) (r : Bool) (hr : (!decide (a = b)) = r)
    (h : wpQuiet Try.prog ops C Q rest (ac.put o.dst (.bool r))) : wpQuiet Try.prog ops C Q (o :: rest) ac :=
  quiet_run hg _ (fun w _ => by rw [← hr]; exact exec_neq30 a b w _ _ _ _ ho hx hy) h

set_option maxHeartbeats 1000000 in
theorem same_any (w : World) (va vb : Value) (la lb : List De) (ha : DSl w va la) (hb : DSl w vb lb) (hn : la.length < 5000000000000) :
    Calls Try.prog 19 #[va, vb] w fun e w' => e = .returned (.bool (decide (la = lb))) ∧ Keeps (fun _ => False) w w' := by
  by_cases hl : la.length = lb.length
  · by_cases h0 : la.length = 0
    · obtain rfl : la = [] := List.length_eq_zero_iff.1 h0
      have hb0 : lb = [] := List.length_eq_zero_iff.1 (by simpa using hl.symm)
      subst hb0
      obtain ⟨p, cap, rfl⟩ := ha.zero
      obtain ⟨p2, cap2, rfl⟩ := hb.zero
      clear hb ha hl hn h0
      go_enter Try.func19, Try.ntmps19
      go_wp2
      refine wp_loop_rounds 1 ?_
      rw [rounds_succ]
      go_wp2
      go_ret
      exact ⟨ret_bool (by simp), Keeps.refl _ _⟩
    · obtain ⟨g, o, cap, rfl, _, hc⟩ := ha.pos (by omega)
      obtain ⟨g2, o2, cap2, rfl, _, hc2⟩ := hb.pos (by omega)
      obtain ⟨n, hna⟩ : ∃ n, n = la.length := ⟨_, rfl⟩
      rw [← hl, ← hna]
      have HL : Hid (n = la.length ∧ n = lb.length) := ⟨hna, hna.trans hl⟩
      rw [← hna] at hn
      clear ha hb hl h0 hna
      go_enter Try.func19, Try.ntmps19
      go_wp2
      go_loopw [5] (fun i wr => ∃ k : Nat, k ≤ n ∧ i = .int .i64 k ∧ Hid (la.take k = lb.take k ∧ Keeps (fun _ => False) w wr)) (fun i _ => n - (intOf i).toNat)
      case atStart => exact ⟨0, Nat.zero_le _, rfl, by simp [Hid]; exact Keeps.refl _ _⟩
      case round =>
        obtain ⟨k, hk, rfl, HR⟩ := hrel
        by_cases h1 : k < n
        · have a0 := HR.out.2.cell (hc k (by rw [← HL.out.1]; exact h1)).1 (fun h => h)
          have a1 := HR.out.2.cell (hc k (by rw [← HL.out.1]; exact h1)).2 (fun h => h)
          have b0 := HR.out.2.cell (hc2 k (by rw [← HL.out.2]; exact h1)).1 (fun h => h)
          have b1 := HR.out.2.cell (hc2 k (by rw [← HL.out.2]; exact h1)).2 (fun h => h)
          clear hc hc2
          generalize hx : la.getD k dz = xa at a0 a1
          generalize hy : lb.getD k dz = xb at b0 b1
          obtain ⟨s1, i1⟩ := xa
          obtain ⟨s2, i2⟩ := xb
          have HXY : Hid (la.getD k dz = (s1, i1) ∧ lb.getD k dz = (s2, i2)) := ⟨hx, hy⟩
          simp only at a0 a1 b0 b1
          clear hx hy
          have h1' : (k : Int) < (n : Int) := by omega
          go_wp2
          by_cases he : (s1, i1) = (s2, i2)
          · have HT : Hid (la.take (k + 1) = lb.take (k + 1)) := take_eq_step dz (show k < la.length by rw [← HL.out.1]; exact h1) (show k < lb.length by rw [← HL.out.2]; exact h1) HR.out.1 (by rw [HXY.out.1, HXY.out.2, he])
            have HE : Hid ((s1, i1) = (s2, i2)) := he
            clear he
            refine wp_region_quiet_lit (by kernel_rfl) (by kernel_rfl) ?_
            repeat (first
              | (refine quiet_neq rfl _ _ rfl (s1, i1) (s2, i2) rfl rfl false (by simp [HE.out]) ?_)
              | quiet_step (fail))
            refine wpQuiet_nil ?_
            intro _ hw'
            obtain ⟨nq, rfl⟩ := hw'
            go_wp2
            go_roundw
            case rel => exact ⟨k + 1, by omega, by go_num, HT.out, HR.out.2.trans (Keeps.drewN _ _ _)⟩
            case measure => simp [intOf]; omega
          · have HN : Hid (la ≠ lb) := fun e => he (by rw [← HXY.out.1, ← HXY.out.2, e])
            have HE : Hid (¬ (s1, i1) = (s2, i2)) := he
            clear he
            refine wp_region_quiet_lit (by kernel_rfl) (by kernel_rfl) ?_
            repeat (first
              | (refine quiet_neq rfl _ _ rfl (s1, i1) (s2, i2) rfl rfl true (by simp [HE.out]) ?_)
              | quiet_step (fail))
            refine wpQuiet_nil ?_
            intro _ hw'
            obtain ⟨nq, rfl⟩ := hw'
            go_wp2
            go_ret
            exact ⟨ret_bool (by simp [HN.out]), HR.out.2.trans (Keeps.drewN _ _ _)⟩
        · have h1' : ¬ (k : Int) < (n : Int) := by omega
          go_wp2
          go_ret
          refine ⟨ret_bool ?_, HR.out.2⟩
          have := HR.out.1
          rw [List.take_of_length_le (by rw [← HL.out.1]; omega), List.take_of_length_le (by rw [← HL.out.2]; omega)] at this
          simp [this]
  · obtain ⟨p, cap, rfl⟩ := ha.shape
    obtain ⟨p2, cap2, rfl⟩ := hb.shape
    have hne : la ≠ lb := fun e => hl (by rw [e])
    have hl1 : ((la.length : Int) == (lb.length : Int)) = false := by simp; omega
    have hl2 : ((la.length : Int) != (lb.length : Int)) = true := by simp; omega
    clear ha hb
    go_enter Try.func19, Try.ntmps19
    go_wp2
    go_ret
    exact ⟨ret_bool (by simp [hne]), Keeps.refl _ _⟩

end Go.Proofs.Ytendmohjodeelaa
