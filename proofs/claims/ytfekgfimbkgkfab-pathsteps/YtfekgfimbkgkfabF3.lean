import Derived.Test.YtfekgfimbkgkfabF1
namespace Go.Proofs.Ytfekgfimbkgkfab
open Go.RowKit Go.Maps

def eagg (a : Ed) : Value := .agg #[.int .i64 a.1, .string a.2.1, .int .i64 a.2.2.1, .bool a.2.2.2]
set_option maxHeartbeats 400000 in
theorem edge_eql (d : Nat) (a b : Ed) (w : World) : (Op.equalIn (d + 2) 40 (eagg a) (eagg b)).run Try.prog w = .ok (decide (a = b)) w := by
  unfold eagg
  rw [run_equalIn_agg w (d + 1) 40 _ _ (by kernel_rfl) (by kernel_rfl)]
  simp only [Program.fieldsOf, Try.underlying40]
  simp [Op.eqFields, part, isAgg, run_underlying Try.underlying3, run_underlying Try.underlying9, run_underlying Try.underlying4, Op.equalIn]
  obtain ⟨a1, a2, a3, a4⟩ := a
  obtain ⟨b1, b2, b3, b4⟩ := b
  have hb : (a2 == b2) = decide (a2 = b2) := by rw [Bool.eq_iff_iff, MapKept.bytes_beq]; simp
  by_cases h1 : a1 = b1 <;> by_cases h2 : a2 = b2 <;> by_cases h3 : a3 = b3 <;> by_cases h4 : a4 = b4 <;> simp_all
theorem run_neq40 (a b : Ed) (w : World) : (binOp .neq 40 (eagg a) (eagg b)).run Try.prog w = .ok (.bool (!decide (a = b))) w := by
  have h := edge_eql 9998 a b w
  rw [show 9998 + 2 = Op.maxDepth from rfl] at h
  unfold eagg at h ⊢
  simp only [binOp, Op.equal, Sem.run_bind, Sem.run_pure, h, Result.andThen]
theorem exec_neq40 (a b : Ed) (w : World) (ρ : Operand → Value) (o : Oper) (x y : Operand) (ho : o.op = .binOp .neq 40 x y 40) (hx : ρ x = eagg a) (hy : ρ y = eagg b) : (execOp ρ o).run Try.prog w = .ok (.value (.bool (!decide (a = b)))) w := by
  have hg := run_eqGuard_agg (P := Try.prog) w .neq 40 x y #[.int .i64 a.1, .string a.2.1, .int .i64 a.2.2.1, .bool a.2.2.2] #[.int .i64 b.1, .string b.2.1, .int .i64 b.2.2.1, .bool b.2.2.2] (by kernel_rfl)
  have h2 := run_neq40 a b w
  unfold eagg at hx hy h2
  simp only [execOp, ho, hx, hy, Sem.run_bind, Sem.run_pure, hg, h2, Result.andThen]
theorem quiet_run {C : World → Prop} {ops : Array Oper} {Q : Act → Prop} {a : Act} {o : Oper} {rest : List Oper} (hg : o.guard = none) (v : Value) (hr : ∀ w, C w → (execOp a.eval o).run Try.prog w = .ok (.value v) w)
    (h : wpQuiet Try.prog ops C Q rest (a.put o.dst v)) : wpQuiet Try.prog ops C Q (o :: rest) a := by
  unfold wpQuiet
  rw [if_pos (by simp [Region.wanted, hg])]
  exact ⟨v, fun w hw => by unfold Oper.quietAt; rw [hr w hw]; exact ⟨rfl, rfl⟩, h⟩
theorem quiet_neq {C : World → Prop} {ops : Array Oper} {Q : Act → Prop} {ac : Act} {o : Oper} {rest : List Oper} (hg : o.guard = none) (x y : Operand) (ho : o.op = .binOp .neq 40 x y 40) (a b : Ed) (hx : ac.eval x = eagg a) (hy : ac.eval y = eagg b) (r : Bool) (hr : (!decide (a = b)) = r)
    (h : wpQuiet Try.prog ops C Q rest (ac.put o.dst (.bool r))) : wpQuiet Try.prog ops C Q (o :: rest) ac :=
  quiet_run hg _ (fun w _ => by rw [← hr]; exact exec_neq40 a b w _ _ _ _ ho hx hy) h

set_option maxHeartbeats 1000000 in
set_option maxRecDepth 100000 in
theorem sameEdges_any (w : World) (va vb : Value) (la lb : List Ed) (ha : Row w va la.length (ecells la)) (hb : Row w vb lb.length (ecells lb)) (hl : la.length = lb.length) (hn : la.length ≤ 3518437208790) :
    Calls Try.prog 23 #[va, vb] w fun e w' => e = .returned (.bool (decide (la = lb))) ∧ Keeps (fun _ => False) w w' := by
  obtain ⟨m, hm⟩ : ∃ m, m = la.length := ⟨_, rfl⟩
  have HL : Hid (la.length = m ∧ lb.length = m) := ⟨hm.symm, (hm.trans hl).symm⟩
  have HA : Hid (Row w va la.length (ecells la)) := ha
  have HB : Hid (Row w vb lb.length (ecells lb)) := hb
  obtain ⟨aa, ca, rfl, _⟩ := ha
  obtain ⟨ab, cb, rfl, _⟩ := hb
  rw [HL.out.1] at HA hn ⊢
  rw [HL.out.2] at HB ⊢
  clear hl hm
  go_enter Try.func23, Try.ntmps23
  go_wp2
  go_loopw [5] (fun i wr => ∃ k : Nat, k ≤ m ∧ i = .int .i64 k ∧ Hid (la.take k = lb.take k ∧ Keeps (fun _ => False) w wr)) (fun i _ => m - (intOf i).toNat)
  case atStart => exact ⟨0, Nat.zero_le _, rfl, rfl, Keeps.refl _ _⟩
  case round =>
    obtain ⟨k, hk, rfl, HR⟩ := hrel
    by_cases h1 : k < m
    · have HA2 : Row w (.slice aa la.length ca) la.length (ecells la) := by rw [HL.out.1]; exact HA.out
      have HB2 : Row w (.slice ab lb.length cb) lb.length (ecells lb) := by rw [HL.out.2]; exact HB.out
      obtain ⟨b, o, cap', e, _, a0, a1, a2, a3⟩ := edges4 HA2 (k := k) (by rw [HL.out.1]; exact h1)
      obtain ⟨b2, o2, cap2, e2, _, b0, b1, b2', b3⟩ := edges4 HB2 (k := k) (by rw [HL.out.2]; exact h1)
      cases e
      cases e2
      have a0 := HR.out.2.cell a0 id
      have a1 := HR.out.2.cell a1 id
      have a2 := HR.out.2.cell a2 id
      have a3 := HR.out.2.cell a3 id
      have b0 := HR.out.2.cell b0 id
      have b1 := HR.out.2.cell b1 id
      have b2' := HR.out.2.cell b2' id
      have b3 := HR.out.2.cell b3 id
      clear HA2 HB2
      have HT : Hid (la.getD k ez = lb.getD k ez → la.take (k + 1) = lb.take (k + 1)) := fun e => take_eq_step ez (by rw [HL.out.1]; exact h1) (by rw [HL.out.2]; exact h1) HR.out.1 e
      have HN : Hid (la.getD k ez ≠ lb.getD k ez → la ≠ lb) := fun h e => h (by rw [e])
      generalize la.getD k ez = xa at a0 a1 a2 a3 HT HN
      generalize lb.getD k ez = xb at b0 b1 b2' b3 HT HN
      obtain ⟨x1, x2, x3, x4⟩ := xa
      obtain ⟨y1, y2, y3, y4⟩ := xb
      simp only at a0 a1 a2 a3 b0 b1 b2' b3
      have h1' : (k : Int) < (m : Int) := by omega
      go_wp2
      by_cases he : ((x1, x2, x3, x4) : Ed) = (y1, y2, y3, y4)
      · have HT2 := Hid.mk' (HT.out he)
        have HE := Hid.mk' he
        clear he
        refine wp_region_quiet_lit (by kernel_rfl) (by kernel_rfl) ?_
        repeat (first
          | (refine quiet_neq rfl _ _ rfl (x1, x2, x3, x4) (y1, y2, y3, y4) rfl rfl false (by simp [HE.out]) ?_)
          | quiet_step (fail))
        refine wpQuiet_nil ?_
        intro _ hw'
        obtain ⟨nq, rfl⟩ := hw'
        go_wp2
        go_roundw
        case rel => exact ⟨k + 1, by omega, by go_num, HT2.out, HR.out.2.trans (Keeps.drewN _ _ _)⟩
        case measure => simp [intOf]; omega
      · have HN2 := Hid.mk' (HN.out he)
        have HE := Hid.mk' he
        clear he
        refine wp_region_quiet_lit (by kernel_rfl) (by kernel_rfl) ?_
        repeat (first
          | (refine quiet_neq rfl _ _ rfl (x1, x2, x3, x4) (y1, y2, y3, y4) rfl rfl true (by simp only [decide_eq_false HE.out, Bool.not_false]) ?_)
          | quiet_step (fail))
        refine wpQuiet_nil ?_
        intro _ hw'
        obtain ⟨nq, rfl⟩ := hw'
        go_wp2
        go_ret
        exact ⟨ret_bool (by simp [HN2.out]), HR.out.2.trans (Keeps.drewN _ _ _)⟩
    · have h1' : ¬ (k : Int) < (m : Int) := by omega
      go_wp2
      go_ret
      refine ⟨ret_bool ?_, HR.out.2⟩
      have := HR.out.1
      rw [List.take_of_length_le (by rw [HL.out.1]; omega), List.take_of_length_le (by rw [HL.out.2]; omega)] at this
      simp [this]
end Go.Proofs.Ytfekgfimbkgkfab
