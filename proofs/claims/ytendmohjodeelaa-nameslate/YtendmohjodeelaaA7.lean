import Derived.Test.YtendmohjodeelaaA6
namespace Go.Proofs.Ytendmohjodeelaa
open Go.RowKit Go.Maps Go.Great

theorem del_none {S : List Rw} {d : Int} {s : ByteArray} (h : hasS S d s = false) : delS S d s = S := by
  unfold delS
  exact List.filter_eq_self.2 (fun r hr => by
    have := hasS_not.1 h r hr
    simp only [Bool.not_eq_true', Bool.eq_false_iff]
    exact fun e => this (same_iff.1 e))

def dropE (S : List Rw) (d : Int) (s : ByteArray) : Int := if hasS S d s then 0 else 82

theorem step_delete {ops : Array Oper} {o : Oper} {a : Act} {w : World} {K : Act → World → Prop} {Q : Exit → Act → World → Prop} {E : Prop} (hgd : o.guard = none) (m k : Operand) (hop : o.op = Op.call { callee := Callee.builtin Builtin.delete, args := #[m, k], argTypes := #[50, 55] })
    (mv kv : Value) (hm : a.eval m = mv) (hk : a.eval k = kv) (w' : World) (hrun : (Builtin.delete_ #[50, 55] o.type #[mv, kv]).run Try.prog w = .ok (.tuple #[]) w')
    (hK : K (a.put o.dst (.tuple #[])) w') : if Region.wanted o (yielded ops a.tmps) = true then Oper.wp Try.prog o a w K Q else E := by
  have hw : Region.wanted o (yielded ops a.tmps) = true := by simp [Region.wanted, hgd]
  rw [if_pos hw]
  unfold Oper.wp
  simp [execOp, hop, resolve, invoke, builtin, hm, hk, hrun, Result.andThen]
  exact hK

theorem IxAt.tie {w : World} {x bm : Nat} {S : List Rw} (h : IxAt w x bm S) : ∃ D : DataW Unit, Tie D S := by
  obtain ⟨D, _, ht⟩ := h.map; exact ⟨D, ht⟩

theorem owns_tight {w : World} {bm n : Nat} {D : DataW Unit} (h : w.ownsMap Try.prog 55 (plainElem Try.prog 3) bm n D) {m : Nat} (hm : Maps.size D = m) : w.ownsMap Try.prog 55 (plainElem Try.prog 3) bm m D := by
  obtain ⟨es, clock, hb, F, hs, e⟩ := h
  refine ⟨es, clock, hb, F, ?_, e⟩
  rw [e] at hm
  simp [Maps.size, length_sorted] at hm
  omega

set_option maxHeartbeats 1000000 in
theorem drop_bad (w : World) (x bm : Nat) (S : List Rw) (h : IxAt w x bm S) (d : Int) (s : ByteArray) (hv : valid s = false) :
    Calls Try.prog 21 #[.pointer (some ⟨x, 0, none⟩), .int .i64 d, .string s] w fun e w' => e = .returned (.tuple #[.int .i64 0, .int .i64 82]) ∧ Hid (IxAt w' x bm S ∧ Keeps (fun k => k = bm) w w') := by
  have h29 := keyOf_none d s w hv
  go_enter Try.func21, Try.ntmps21
  go_wp2_with (first
    | (go_at_call 29; refine h29.mono ?_; rintro e w1 ⟨rfl, hk⟩)
    | (refine wpList_alloc_k rfl rfl ?_)
    | (refine wpList_store_row rfl 55 _ _ rfl _ kzero rfl rfl 55 kzero (heap_alloc_last _ _) (by rw [size_kzero]; exact size55) rfl (kcells_one _ _) ?_; rw [World.setRow_alloc_new]))
  go_ret2
  exact ⟨rfl, h.keep (hk.alloc _) (fun h => h) (fun h => h), (hk.alloc _).mono (fun _ _ h => h.elim)⟩

set_option maxHeartbeats 1000000 in
theorem drop_none (w : World) (x bm : Nat) (S : List Rw) (h : IxAt w x bm S) (d : Int) (hwf : (Lit.int .i64 d).wf = true) (s : ByteArray) (hv : valid s = true) (hh : hasS S d s = false) :
    Calls Try.prog 21 #[.pointer (some ⟨x, 0, none⟩), .int .i64 d, .string s] w fun e w' => e = .returned (.tuple #[.int .i64 0, .int .i64 82]) ∧ Hid (IxAt w' x bm S ∧ Keeps (fun k => k = bm) w w') := by
  have hs := (valid_size hv).1
  have h29 := keyOf_some d s w hv hs
  go_enter Try.func21, Try.ntmps21
  go_wp2_with (first
    | (go_at_call 29; refine h29.mono ?_; rintro e w1 ⟨rfl, hk⟩)
    | (refine wpList_alloc_k rfl rfl ?_)
    | (refine wpList_store_row rfl 55 _ _ rfl _ (kcells d s) rfl rfl 55 kzero (heap_alloc_last _ _) (size55' _ _) (by rw [size_kcells]; exact size_kzero) (kcells_one _ _) ?_; rw [World.setRow_alloc_new]))
  have h1 := h.keep (hk.alloc (.cells (kcells d s) 55)) (fun h => h) (fun h => h)
  obtain ⟨D, ho, ht⟩ := h1.map
  have c0 := cell0 h1.cell
  have hb := heap_alloc_last w1 (.cells (kcells d s) 55)
  have HK : Hid (Keeps (fun _ => False) w (w1.alloc (.cells (kcells d s) 55))) := hk.alloc _
  generalize w1.alloc (.cells (kcells d s) 55) = W at hb ho c0 HK h1 ⊢
  have hlk : ∀ m, (Instr.lookup 50 (.map (some bm)) (.agg (kcells d s)) true).run Try.prog (W.drewN m) = .ok (.tuple #[.int .i64 (getS S d s), .bool false]) (W.drewN m) := by
    intro m
    have ho' : (W.drewN m).ownsMap Try.prog 55 (plainElem Try.prog 3) bm S.length D := ho
    obtain ⟨v, ps, hrun, hat⟩ := ho'.look_ok keyLaw Try.underlying50 (zero3 _) (plainElem_int Try.underlying3 (by decide)) (key := .agg (kcells d s)) (kl := kL d s) (keyOf_mk d s hwf hs)
    rw [ht.at hwf hs] at hat
    obtain ⟨c, rfl, hc, _⟩ := plainElem_int_inv Try.underlying3 hat
    have e : c = getS S d s := by simp at hc; exact hc.1.symm
    rw [hrun, ht.has_eq hwf hs, hh, e]
  refine wp_region_quiet_lit (by kernel_rfl) (by kernel_rfl) ?_
  repeat (first
    | (refine quiet_load55 rfl _ rfl w1.heap.size rfl (kcells d s) hb (size_kcells _ _) ?_)
    | (refine quiet_lookup rfl _ _ _ rfl (.map (some bm)) (.agg (kcells d s)) _ rfl rfl hlk ?_)
    | quiet_step (fail))
  refine wpQuiet_nil ?_
  intro _ hw'
  obtain ⟨nq, rfl⟩ := hw'
  clear hlk
  go_wp2
  go_ret2
  exact ⟨rfl, h1.keep (Keeps.drewN (fun _ => False) _ _) (fun h => h) (fun h => h), (HK.out.trans (Keeps.drewN _ _ _)).mono (fun _ _ h => h.elim)⟩

set_option maxHeartbeats 1000000 in
theorem drop_some (w : World) (x bm : Nat) (S : List Rw) (h : IxAt w x bm S) (d : Int) (hwf : (Lit.int .i64 d).wf = true) (s : ByteArray) (hv : valid s = true) (hh : hasS S d s = true) :
    Calls Try.prog 21 #[.pointer (some ⟨x, 0, none⟩), .int .i64 d, .string s] w fun e w' => e = .returned (.tuple #[.int .i64 (getS S d s), .int .i64 0]) ∧ Hid (IxAt w' x bm (delS S d s) ∧ Keeps (fun k => k = bm) w w') := by
  have hs := (valid_size hv).1
  have h29 := keyOf_some d s w hv hs
  go_enter Try.func21, Try.ntmps21
  go_wp2_with (first
    | (go_at_call 29; refine h29.mono ?_; rintro e w1 ⟨rfl, hk⟩)
    | (refine wpList_alloc_k rfl rfl ?_)
    | (refine wpList_store_row rfl 55 _ _ rfl _ (kcells d s) rfl rfl 55 kzero (heap_alloc_last _ _) (size55' _ _) (by rw [size_kcells]; exact size_kzero) (kcells_one _ _) ?_; rw [World.setRow_alloc_new]))
  have h1 := h.keep (hk.alloc (.cells (kcells d s) 55)) (fun h => h) (fun h => h)
  obtain ⟨D, ho, ht⟩ := h1.map
  have c0 := cell0 h1.cell
  have hb := heap_alloc_last w1 (.cells (kcells d s) 55)
  have HK : Hid (Keeps (fun _ => False) w (w1.alloc (.cells (kcells d s) 55))) := hk.alloc _
  generalize w1.alloc (.cells (kcells d s) 55) = W at hb ho c0 HK h1 ⊢
  have hlk : ∀ m, (Instr.lookup 50 (.map (some bm)) (.agg (kcells d s)) true).run Try.prog (W.drewN m) = .ok (.tuple #[.int .i64 (getS S d s), .bool true]) (W.drewN m) := by
    intro m
    have ho' : (W.drewN m).ownsMap Try.prog 55 (plainElem Try.prog 3) bm S.length D := ho
    obtain ⟨v, ps, hrun, hat⟩ := ho'.look_ok keyLaw Try.underlying50 (zero3 _) (plainElem_int Try.underlying3 (by decide)) (key := .agg (kcells d s)) (kl := kL d s) (keyOf_mk d s hwf hs)
    rw [ht.at hwf hs] at hat
    obtain ⟨c, rfl, hc, _⟩ := plainElem_int_inv Try.underlying3 hat
    have e : c = getS S d s := by simp at hc; exact hc.1.symm
    rw [hrun, ht.has_eq hwf hs, hh, e]
  refine wp_region_quiet_lit (by kernel_rfl) (by kernel_rfl) ?_
  repeat (first
    | (refine quiet_load55 rfl _ rfl w1.heap.size rfl (kcells d s) hb (size_kcells _ _) ?_)
    | (refine quiet_lookup rfl _ _ _ rfl (.map (some bm)) (.agg (kcells d s)) _ rfl rfl hlk ?_)
    | quiet_step (fail))
  refine wpQuiet_nil ?_
  intro _ hw'
  obtain ⟨nq, rfl⟩ := hw'
  clear hlk
  go_wp2
  refine wp_region_held_drew (S := RegS x bm w1.heap.size (kcells d s)) (by kernel_rfl) ⟨h1.cell, hb⟩ (fun hS => ?_)
  refine takeH 0 (some 31) (.pointer (some ⟨x, 0, none⟩)) rfl rfl (by kernel_rfl) (by kernel_rfl) (by kernel_rfl) (fun _ _ _ h => h) (Or.inl ⟨by rfl, fun w hw => ?_⟩) hS ?_
  · go_simp
  simp only [Act.put, List.setIfInBounds_toArray, List.set_cons_zero, List.set_cons_succ]
  refine takeH 1 (some 32) (.pointer (some ⟨x, 0, none⟩)) rfl rfl (by kernel_rfl) (by kernel_rfl) (by kernel_rfl) (fun _ _ _ h => h) (Or.inl ⟨by rfl, fun w hw => ?_⟩) hS ?_
  · go_simp
  simp only [Act.put, List.setIfInBounds_toArray, List.set_cons_zero, List.set_cons_succ]
  refine takeH 2 (some 33) (.pointer (some ⟨x, 0, none⟩)) rfl rfl (by kernel_rfl) (by kernel_rfl) (by kernel_rfl) (fun _ _ _ h => h) (Or.inl ⟨by rfl, fun w hw => ?_⟩) hS ?_
  · go_simp
  simp only [Act.put, List.setIfInBounds_toArray, List.set_cons_zero, List.set_cons_succ]
  refine takeH 3 (some 34) (.map (some bm)) rfl rfl (by kernel_rfl) (by kernel_rfl) (by kernel_rfl) (fun _ _ _ h => h) (Or.inl ⟨by rfl, fun w hw => ?_⟩) hS ?_
  · have := cell0 hw.1
    go_simp
  simp only [Act.put, List.setIfInBounds_toArray, List.set_cons_zero, List.set_cons_succ]
  refine takeH 4 (some 35) (.agg (kcells d s)) rfl rfl (by kernel_rfl) (by kernel_rfl) (by kernel_rfl) (fun _ _ _ h => h) (Or.inl ⟨by rfl, fun w hw => ?_⟩) hS ?_
  · exact run_load55 w w1.heap.size (kcells d s) hw.2 (size_kcells _ _) _ _ _ rfl rfl
  simp only [Act.put, List.setIfInBounds_toArray, List.set_cons_zero, List.set_cons_succ]
  have ho' : (W.drewN nq).drew.ownsMap Try.prog 55 (plainElem Try.prog 3) bm S.length D := ho
  obtain ⟨w2, hrun, hown, htu⟩ := ho'.drop keyLaw Try.underlying50 (key := .agg (kcells d s)) (kl := kL d s) (keyOf_mk d s hwf hs) 0
  have hgr := htu.grown
  have hne : x ≠ bm := h1.ne
  have hgb : w1.heap.size ≠ bm := by
    rintro e
    obtain ⟨es, cl, hb', _⟩ := ho
    rw [e, hb'] at hb; cases hb
  have hS2 : RegS x bm w1.heap.size (kcells d s) w2 := ⟨by rw [hgr.block x (heap_lt hS.1) (by simpa using hne)]; exact hS.1, by rw [hgr.block _ (heap_lt hS.2) (by simpa using hgb)]; exact hS.2⟩
  refine wpAnyH_ready (rs := [5]) (by kernel_rfl) (by simp) (AllReadyH.cons rfl (fun K hK => ?_) AllReadyH.nil)
  refine step_delete rfl _ _ rfl _ _ rfl rfl w2 hrun ?_
  refine hK.out _ _ hS2 (fun hHeld => ?_)
  refine wpAnyH_done (by kernel_rfl) ?_ _
  go_wp2
  go_ret2
  have ht2 := ht.del (ho.tidy keyLaw) hwf hs hh
  refine ⟨rfl, ⟨hS2.1, _, owns_tight hown ht2.size, ht2⟩, ?_⟩
  have hgr' : W.grownBy w2 (some bm) := ⟨hgr.os, hgr.tape, hgr.output, hgr.size, hgr.block⟩
  exact (HK.out.mono (fun _ _ h => h.elim)).then (Keeps.of (X := fun k => k = bm) hgr' (by rintro k e; cases e; exact Or.inl rfl)) (fun k h => Or.inl h)

theorem drop_any (w : World) (x bm : Nat) (S : List Rw) (h : IxAt w x bm S) (d : Int) (hwf : (Lit.int .i64 d).wf = true) (s : ByteArray) :
    Calls Try.prog 21 #[.pointer (some ⟨x, 0, none⟩), .int .i64 d, .string s] w fun e w' => e = .returned (.tuple #[.int .i64 (getS S d s), .int .i64 (dropE S d s)]) ∧ Hid (IxAt w' x bm (delS S d s) ∧ Keeps (fun k => k = bm) w w') := by
  rcases Bool.eq_false_or_eq_true (hasS S d s) with hh | hh
  · have hv : valid s = true := by
      obtain ⟨r, hr, e⟩ := hasS_iff.1 hh
      obtain ⟨D, ht⟩ := h.tie
      rw [← e.2]; exact (ht.ok r hr).2.1
    have e : dropE S d s = 0 := by simp [dropE, hh]
    rw [e]
    exact drop_some w x bm S h d hwf s hv hh
  · have e : dropE S d s = 82 := by simp [dropE, hh]
    rw [e, getS_none hh, del_none hh]
    rcases Bool.eq_false_or_eq_true (valid s) with hv | hv
    · exact drop_none w x bm S h d hwf s hv hh
    · exact drop_bad w x bm S h d s hv

end Go.Proofs.Ytendmohjodeelaa
