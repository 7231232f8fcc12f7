import Derived.Test.YtendmohjodeelaaA4
import Derived.Deep.RegionHeld3
namespace Go.Proofs.Ytendmohjodeelaa
open Go.RowKit Go.Maps Go.Great

/-- An index at block x, its map at block bm, with the names S. -/
structure IxAt (w : World) (x bm : Nat) (S : List Rw) : Prop where
  cell : w.heap[x]? = some (.cells #[.map (some bm)] 52 (0, 0))
  map : ∃ D : DataW Unit, w.ownsMap Try.prog 55 (plainElem Try.prog 3) bm S.length D ∧ Tie D S

theorem IxAt.keep {w w' : World} {x bm : Nat} {S : List Rw} {X : Nat → Prop} (h : IxAt w x bm S) (k : Keeps X w w') (hx : ¬ X x) (hm : ¬ X bm) : IxAt w' x bm S := by
  obtain ⟨D, ho, ht⟩ := h.map
  refine ⟨k.at h.cell hx, D, ?_, ht⟩
  obtain ⟨es, clock, hb, hr⟩ := ho
  exact ⟨es, clock, k.at hb hm, hr⟩
theorem IxAt.lt {w : World} {x bm : Nat} {S : List Rw} (h : IxAt w x bm S) : bm < w.heap.size := by
  obtain ⟨D, ho, _⟩ := h.map; exact ho.lt
theorem IxAt.ne {w : World} {x bm : Nat} {S : List Rw} (h : IxAt w x bm S) : x ≠ bm := by
  rintro rfl
  obtain ⟨D, ⟨es, clock, hb, _⟩, _⟩ := h.map
  have := h.cell
  rw [hb] at this
  cases this

theorem run_row (w : World) (g : Nat) (c : Array Value) (h : w.heap[g]? = some (.cells c 55 (0, 0))) (hs : c.size = 30) : (loadCellsFrom ⟨g, 0, none⟩ 0 30 #[]).run Try.prog w = .ok c w := by
  have := run_loadCells_list (P := Try.prog) w ⟨g, 0, none⟩ c.toList (fun j v hv => by
    have hadd : (⟨g, 0, none⟩ : Addr).add j = ⟨g, j, none⟩ := by unfold Addr.add; split <;> simp_all
    rw [hadd, cell_of_row _ _ j c 55 (0, 0) h]
    simpa using hv)
  simpa [loadCells, hs] using this

theorem run_load55 (w : World) (g : Nat) (c : Array Value) (h : w.heap[g]? = some (.cells c 55 (0, 0))) (hs : c.size = 30) (ρ : Operand → Value) (o : Oper) (x : Operand) (ho : o.op = .load 55 x) (hx : ρ x = .pointer (some ⟨g, 0, none⟩)) : (execOp ρ o).run Try.prog w = .ok (.value (.agg c)) w := by
  have h1 := run_loadVar_row (P := Try.prog) w g 55 55 c (0, 0) _ h Try.underlying55 rfl (by rw [hs]; exact size55)
  simp only [execOp, ho, hx, Instr.loadAt, Instr.sureAddr, Sem.run_bind, Sem.run_pure, Result.andThen, h1]

theorem quiet_run {C : World → Prop} {ops : Array Oper} {Q : Act → Prop} {a : Act} {o : Oper} {rest : List Oper} (hg : o.guard = none) (v : Value) (hr : ∀ w, C w → (execOp a.eval o).run Try.prog w = .ok (.value v) w)
    (h : wpQuiet Try.prog ops C Q rest (a.put o.dst v)) : wpQuiet Try.prog ops C Q (o :: rest) a := by
  unfold wpQuiet
  rw [if_pos (by simp [Region.wanted, hg])]
  exact ⟨v, fun w hw => by unfold Oper.quietAt; rw [hr w hw]; exact ⟨rfl, rfl⟩, h⟩

theorem quiet_load55 {W : World} {ops : Array Oper} {Q : Act → Prop} {a : Act} {o : Oper} {rest : List Oper} (hg : o.guard = none) (x : Operand) (ho : o.op = .load 55 x) (g : Nat) (hx : a.eval x = .pointer (some ⟨g, 0, none⟩)) (c : Array Value) (hb : W.heap[g]? = some (.cells c 55 (0, 0))) (hs : c.size = 30)
    (h : wpQuiet Try.prog ops (fun w' => ∃ n, w' = W.drewN n) Q rest (a.put o.dst (.agg c))) : wpQuiet Try.prog ops (fun w' => ∃ n, w' = W.drewN n) Q (o :: rest) a :=
  quiet_run hg _ (fun _ ⟨n, e⟩ => by subst e; exact run_load55 (W.drewN n) g c hb hs _ _ _ ho hx) h
theorem quiet_lookup {W : World} {ops : Array Oper} {Q : Act → Prop} {a : Act} {o : Oper} {rest : List Oper} (hg : o.guard = none) (m x : Operand) (c : Bool) (ho : o.op = .lookup 50 m x c) (mv xv v : Value) (hm : a.eval m = mv) (hx : a.eval x = xv)
    (hr : ∀ n, (Instr.lookup 50 mv xv c).run Try.prog (W.drewN n) = .ok v (W.drewN n))
    (h : wpQuiet Try.prog ops (fun w' => ∃ n, w' = W.drewN n) Q rest (a.put o.dst v)) : wpQuiet Try.prog ops (fun w' => ∃ n, w' = W.drewN n) Q (o :: rest) a :=
  quiet_run hg _ (fun _ ⟨n, e⟩ => by subst e; simp only [execOp, ho, hm, hx, Sem.run_bind, Sem.run_pure, hr n, Result.andThen]) h

theorem zero3 (w : World) : (zeroValue 3).run Try.prog w = .ok (.int .i64 0) w := by kernel_rfl

set_option maxHeartbeats 1000000 in
theorem new_any (w : World) : Calls Try.prog 17 #[] w fun e w' => e = .returned (.pointer (some ⟨w.heap.size + 1, 0, none⟩)) ∧ Hid (IxAt w' (w.heap.size + 1) w.heap.size [] ∧ Keeps (fun _ => False) w w' ∧ w'.heap.size = w.heap.size + 2) := by
  have hmm := @run_makeMap Try.prog
  go_enter Try.func17, Try.ntmps17
  go_wp2
  go_ret
  refine ⟨rfl, ⟨?_, _, (World.ownsMap_made w Try.prog 55 _).alloc _, tie_nil⟩, ((Keeps.refl _ w).alloc _).alloc _, ?_⟩
  · have := heap_alloc_last (w.alloc (.map #[] 0)) (.cells #[.map (some w.heap.size)] 52); rwa [World.size_alloc] at this
  · simp

theorem inode_any (n : Int) (w : World) : Calls Try.prog 30 #[.int .i64 n] w fun e w' => e = .returned (.bool (decide (1 ≤ n) && decide (n ≤ 256))) ∧ w' = w := by
  go_enter Try.func30, Try.ntmps30
  go_wp2
  all_goals (go_ret; refine ⟨ret_bool ?_, rfl⟩)
  all_goals simp_all
  all_goals omega

set_option maxHeartbeats 1000000 in
theorem get_any (w : World) (x bm : Nat) (S : List Rw) (h : IxAt w x bm S) (d : Int) (hd : (Lit.int .i64 d).wf = true) (s : ByteArray) :
    Calls Try.prog 13 #[.pointer (some ⟨x, 0, none⟩), .int .i64 d, .string s] w fun e w' => e = .returned (.int .i64 (getS S d s)) ∧ Keeps (fun _ => False) w w' := by
  cases hv : valid s with
  | false =>
    have h29 := keyOf_none d s w hv
    have hg : getS S d s = 0 := getS_none (hasS_not.2 (fun r hr e => by
      obtain ⟨D, _, ht⟩ := h.map
      have := (ht.ok r hr).2.1
      rw [e.2, hv] at this; cases this))
    rw [hg]
    go_enter Try.func13, Try.ntmps13
    go_wp2_with (first
      | (go_at_call 29; refine h29.mono ?_; rintro e w1 ⟨rfl, hk⟩)
      | (refine wpList_alloc_k rfl rfl ?_)
      | (refine wpList_store_row rfl 55 _ _ rfl _ kzero rfl rfl 55 kzero (heap_alloc_last _ _) (by rw [size_kzero]; exact size55) rfl (kcells_one _ _) ?_; rw [World.setRow_alloc_new]))
    go_ret
    exact ⟨rfl, hk.alloc _⟩
  | true =>
    have hs := (valid_size hv).1
    have h29 := keyOf_some d s w hv hs
    go_enter Try.func13, Try.ntmps13
    go_wp2_with (first
      | (go_at_call 29; refine h29.mono ?_; rintro e w1 ⟨rfl, hk⟩)
      | (refine wpList_alloc_k rfl rfl ?_)
      | (refine wpList_store_row rfl 55 _ _ rfl _ (kcells d s) rfl rfl 55 kzero (heap_alloc_last _ _) (size55' _ _) (by rw [size_kcells]; exact size_kzero) (kcells_one _ _) ?_; rw [World.setRow_alloc_new]))
    have h1 := h.keep (hk.alloc (.cells (kcells d s) 55)) (fun h => h) (fun h => h)
    obtain ⟨D, ho, ht⟩ := h1.map
    have c0 : (w1.alloc (.cells (kcells d s) 55)).cell? ⟨x, 0, none⟩ = some (.map (some bm)) := by rw [cell_of_row _ _ 0 _ 52 (0, 0) h1.cell]; rfl
    have hb := heap_alloc_last w1 (.cells (kcells d s) 55)
    have HK : Hid (Keeps (fun _ => False) w (w1.alloc (.cells (kcells d s) 55))) := hk.alloc _
    generalize w1.alloc (.cells (kcells d s) 55) = W at hb ho c0 HK ⊢
    have hlk : ∀ n, (Instr.lookup 50 (.map (some bm)) (.agg (kcells d s)) false).run Try.prog (W.drewN n) = .ok (.int .i64 (getS S d s)) (W.drewN n) := by
      intro n
      have ho' : (W.drewN n).ownsMap Try.prog 55 (plainElem Try.prog 3) bm S.length D := ho
      obtain ⟨c, hrun, hat, hwc⟩ := ho'.lookup_int keyLaw Try.underlying50 Try.underlying3 (zero3 _) (key := .agg (kcells d s)) (kl := kL d s) (keyOf_mk d s hd hs)
      rw [ht.at hd hs] at hat
      have e : c = getS S d s := by simpa using hat.symm
      rw [hrun, e]
    clear h29 ho ht h1 hk h hs hv
    refine wp_region_quiet_lit (by kernel_rfl) (by kernel_rfl) ?_
    repeat (first
      | (refine quiet_load55 rfl _ rfl w1.heap.size rfl (kcells d s) hb (size_kcells _ _) ?_)
      | (refine quiet_lookup rfl _ _ _ rfl (.map (some bm)) (.agg (kcells d s)) _ rfl rfl hlk ?_)
      | quiet_step (fail))
    refine wpQuiet_nil ?_
    intro _ hw'
    obtain ⟨nq, rfl⟩ := hw'
    go_wp2
    go_ret
    exact ⟨rfl, HK.out.trans (Keeps.drewN _ _ _)⟩

end Go.Proofs.Ytendmohjodeelaa
