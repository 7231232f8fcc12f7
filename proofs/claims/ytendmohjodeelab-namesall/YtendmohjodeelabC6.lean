import Derived.Test.YtendmohjodeelabC5
namespace Go.Proofs.Ytendmohjodeelab
open Go.RowKit Go.Maps Go.Great

/-- What List's region reads. -/
def LiS (y g k n cap : Nat) (qs : ByteArray) (qi : Int) (w' : World) : Prop := w'.cell? ⟨y, 0, none⟩ = some (.slice (some ⟨g, 0, none⟩) n cap) ∧ w'.cell? ⟨g, k * 3 + 1, none⟩ = some (.string qs) ∧ w'.cell? ⟨g, k * 3 + 2, none⟩ = some (.int .i64 qi)
theorem LiS.keep {y g k n cap : Nat} {qs : ByteArray} {qi : Int} {w w' : World} (h : LiS y g k n cap qs qi w) {r : Option Nat} (hg : w.grownBy w' r) (hy : some y ≠ r) (hgr : some g ≠ r) : LiS y g k n cap qs qi w' := by
  refine ⟨?_, ?_, ?_⟩
  · rw [hg.cell_far _ (World.block_lt_of_cell? _ _ h.1) hy]; exact h.1
  · rw [hg.cell_far _ (World.block_lt_of_cell? _ _ h.2.1) hgr]; exact h.2.1
  · rw [hg.cell_far _ (World.block_lt_of_cell? _ _ h.2.2) hgr]; exact h.2.2

theorem step_alloc {ops : Array Oper} {o : Oper} {a : Act} {w : World} {K : Act → World → Prop} {Q : Exit → Act → World → Prop} {E : Prop} (hgd : o.guard = none) (v : Value) (w' : World) (hrun : (execOp a.eval o).run Try.prog w = .ok (.value v) w')
    (hK : K (a.put o.dst v) w') : if Region.wanted o (yielded ops a.tmps) = true then Oper.wp Try.prog o a w K Q else E := by
  have hw : Region.wanted o (yielded ops a.tmps) = true := by simp [Region.wanted, hgd]
  rw [if_pos hw]
  unfold Oper.wp
  rw [hrun, Oper.upon_value]
  exact hK
theorem step_app {ops : Array Oper} {o : Oper} {a : Act} {w : World} {K : Act → World → Prop} {Q : Exit → Act → World → Prop} {E : Prop} (hgd : o.guard = none) (s x : Operand) (t : TypeId) (ho : o.op = .call { callee := .builtin .append, args := #[s, x], argTypes := #[t, t] })
    (vs vx v' : Value) (w' : World) (hs : a.eval s = vs) (hx : a.eval x = vx) (hrun : (Builtin.append_ #[t, t] o.type #[vs, vx]).run Try.prog w = .ok v' w')
    (hK : K (a.put o.dst v') w') : if Region.wanted o (yielded ops a.tmps) = true then Oper.wp Try.prog o a w K Q else E := by
  have hw : Region.wanted o (yielded ops a.tmps) = true := by simp [Region.wanted, hgd]
  rw [if_pos hw]
  unfold Oper.wp
  simp [execOp, ho, resolve, invoke, builtin, hs, hx, hrun, Result.andThen]
  exact hK

/-- What the reference's List holds in its loop. -/
def LkR (w wr : World) (S : List Rw) (d : Int) (v : Value) (i : Nat) : Prop := RowD wr w.heap.size v (lstS (S.take i) d) ∧ Keeps (fun _ => False) w wr
theorem lst_step {S : List Rw} {k : Nat} (h : k < S.length) (d : Int) : lstS (S.take (k + 1)) d = lstS (S.take k) d ++ (if inDir d (S.getD k rz) then [toDe (S.getD k rz)] else []) := by
  rw [lstS_eq, lstS_eq, filt_step (inDir d) h, List.map_append]
  split <;> simp
theorem lst_take_le (S : List Rw) (k : Nat) (d : Int) : (lstS (S.take k) d).length ≤ S.length := by rw [lst_len]; exact filt_take_le _ _ _

set_option maxHeartbeats 4000000 in
set_option maxRecDepth 100000 in
theorem ref_list (w : World) (y : Nat) (S : List Rw) (h : RefAt w y S) (d : Int) (hl : S.length < 4000000000000) :
    Calls Try.prog 44 #[.pointer (some ⟨y, 0, none⟩), .int .i64 d] w fun e w' => ∃ p c, e = .returned (.slice p (lstS S d).length c) ∧ Hid (RowD w' w.heap.size (.slice p (lstS S d).length c) (lstS S d) ∧ Keeps (fun _ => False) w w') := by
  obtain ⟨i0, hi, hz0, hz1, hz2⟩ := info_parts info30
  obtain ⟨v, hy, hr⟩ := h
  obtain ⟨p, cap, rfl⟩ := hr.shape
  have c0 := (refcell hy).1
  have HRW : Hid (RowR w (.slice p S.length cap) S) := hr
  have hyl := heap_lt hy
  clear hy hr
  go_enter Try.func44, Try.ntmps44
  go_wp2
  go_loopw [5, 6] (fun v i wr => ∃ k : Nat, k ≤ S.length ∧ i = .int .i64 k ∧ Hid (LkR w wr S d v k)) (fun _ i _ => S.length - (intOf i).toNat)
  case atStart => exact ⟨0, Nat.zero_le _, rfl, ⟨rfl, Or.inl ⟨rfl, rfl⟩⟩, Keeps.refl _ _⟩
  case round =>
    obtain ⟨k, hk, rfl, HR⟩ := hrel
    have c1 := HR.out.2.cell c0 (fun h => h)
    by_cases h1 : k < S.length
    · obtain ⟨g, rfl, hc⟩ := HRW.out.at (by omega)
      obtain ⟨q0, q1, q2⟩ := hc k h1
      have hgl : g < w.heap.size := World.block_lt_of_cell? _ _ q0
      have q0 := HR.out.2.cell q0 (fun h => h)
      have q1 := HR.out.2.cell q1 (fun h => h)
      have q2 := HR.out.2.cell q2 (fun h => h)
      have hst := lst_step h1 d
      generalize S.getD k rz = q at q0 q1 q2 hst
      obtain ⟨qd, qs, qi⟩ := q
      simp only at q0 q1 q2
      have h1' : (k : Int) < (S.length : Int) := by omega
      clear hc
      rcases Bool.eq_false_or_eq_true (decide (qd = d)) with hd | hd
      · have hd2 : (qd == d) = true := by simpa using hd
        have HST : Hid (lstS (S.take (k + 1)) d = lstS (S.take k) d ++ [(qs, qi)]) := by
          show _ = _
          rw [hst]; simp [inDir, hd, toDe]
        have HLN : Hid ((lstS (S.take k) d).length < 4000000000000) := by
          have := lst_take_le S k d
          show _ < _
          omega
        clear hst hd
        go_wp2
        refine wp_region_held_drew (S := LiS y g k S.length cap qs qi) (by kernel_rfl) ⟨c1, q1, q2⟩ (fun hS => ?_)
        refine takeH 0 (some 26) (u5) rfl rfl (by kernel_rfl) (by kernel_rfl) (by kernel_rfl) (fun _ _ _ h => h) (Or.inl ⟨by rfl, fun w hw => ?_⟩) hS ?_
        · go_simp
        simp only [Act.put, List.setIfInBounds_toArray, List.set_cons_zero, List.set_cons_succ]
        refine takeH 1 (some 27) (.pointer (some ⟨y, 0, none⟩)) rfl rfl (by kernel_rfl) (by kernel_rfl) (by kernel_rfl) (fun _ _ _ h => h) (Or.inl ⟨by rfl, fun w hw => ?_⟩) hS ?_
        · go_simp
        simp only [Act.put, List.setIfInBounds_toArray, List.set_cons_zero, List.set_cons_succ]
        refine takeH 2 (some 28) (.pointer (some ⟨y, 0, none⟩)) rfl rfl (by kernel_rfl) (by kernel_rfl) (by kernel_rfl) (fun _ _ _ h => h) (Or.inl ⟨by rfl, fun w hw => ?_⟩) hS ?_
        · go_simp
        simp only [Act.put, List.setIfInBounds_toArray, List.set_cons_zero, List.set_cons_succ]
        refine takeH 3 (some 29) (.pointer (some ⟨y, 0, none⟩)) rfl rfl (by kernel_rfl) (by kernel_rfl) (by kernel_rfl) (fun _ _ _ h => h) (Or.inl ⟨by rfl, fun w hw => ?_⟩) hS ?_
        · go_simp
        simp only [Act.put, List.setIfInBounds_toArray, List.set_cons_zero, List.set_cons_succ]
        refine takeH 4 (some 30) (.slice (some ⟨g, 0, none⟩) S.length cap) rfl rfl (by kernel_rfl) (by kernel_rfl) (by kernel_rfl) (fun _ _ _ h => h) (Or.inl ⟨by rfl, fun w hw => ?_⟩) hS ?_
        · have := hw.1
          go_simp
        simp only [Act.put, List.setIfInBounds_toArray, List.set_cons_zero, List.set_cons_succ]
        refine takeH 5 (some 31) (.int .i64 (k : Int)) rfl rfl (by kernel_rfl) (by kernel_rfl) (by kernel_rfl) (fun _ _ _ h => h) (Or.inl ⟨by rfl, fun w hw => ?_⟩) hS ?_
        · go_simp
        simp only [Act.put, List.setIfInBounds_toArray, List.set_cons_zero, List.set_cons_succ]
        refine takeH 6 (some 32) (.pointer (some ⟨g, k * 3, none⟩)) rfl rfl (by kernel_rfl) (by kernel_rfl) (by kernel_rfl) (fun _ _ _ h => h) (Or.inl ⟨by rfl, fun w hw => ?_⟩) hS ?_
        · go_simp
        simp only [Act.put, List.setIfInBounds_toArray, List.set_cons_zero, List.set_cons_succ]
        refine takeH 7 (some 33) (.pointer (some ⟨g, k * 3 + 1, none⟩)) rfl rfl (by kernel_rfl) (by kernel_rfl) (by kernel_rfl) (fun _ _ _ h => h) (Or.inl ⟨by rfl, fun w hw => ?_⟩) hS ?_
        · go_simp
        simp only [Act.put, List.setIfInBounds_toArray, List.set_cons_zero, List.set_cons_succ]
        refine takeH 8 (some 34) (.string qs) rfl rfl (by kernel_rfl) (by kernel_rfl) (by kernel_rfl) (fun _ _ _ h => h) (Or.inl ⟨by rfl, fun w hw => ?_⟩) hS ?_
        · have := hw.2.1
          go_simp
        simp only [Act.put, List.setIfInBounds_toArray, List.set_cons_zero, List.set_cons_succ]
        refine takeH 9 (some 35) (.pointer (some ⟨y, 0, none⟩)) rfl rfl (by kernel_rfl) (by kernel_rfl) (by kernel_rfl) (fun _ _ _ h => h) (Or.inl ⟨by rfl, fun w hw => ?_⟩) hS ?_
        · go_simp
        simp only [Act.put, List.setIfInBounds_toArray, List.set_cons_zero, List.set_cons_succ]
        refine takeH 10 (some 36) (.pointer (some ⟨y, 0, none⟩)) rfl rfl (by kernel_rfl) (by kernel_rfl) (by kernel_rfl) (fun _ _ _ h => h) (Or.inl ⟨by rfl, fun w hw => ?_⟩) hS ?_
        · go_simp
        simp only [Act.put, List.setIfInBounds_toArray, List.set_cons_zero, List.set_cons_succ]
        refine takeH 11 (some 37) (.pointer (some ⟨y, 0, none⟩)) rfl rfl (by kernel_rfl) (by kernel_rfl) (by kernel_rfl) (fun _ _ _ h => h) (Or.inl ⟨by rfl, fun w hw => ?_⟩) hS ?_
        · go_simp
        simp only [Act.put, List.setIfInBounds_toArray, List.set_cons_zero, List.set_cons_succ]
        refine takeH 12 (some 38) (.slice (some ⟨g, 0, none⟩) S.length cap) rfl rfl (by kernel_rfl) (by kernel_rfl) (by kernel_rfl) (fun _ _ _ h => h) (Or.inl ⟨by rfl, fun w hw => ?_⟩) hS ?_
        · have := hw.1
          go_simp
        simp only [Act.put, List.setIfInBounds_toArray, List.set_cons_zero, List.set_cons_succ]
        refine takeH 13 (some 39) (.int .i64 (k : Int)) rfl rfl (by kernel_rfl) (by kernel_rfl) (by kernel_rfl) (fun _ _ _ h => h) (Or.inl ⟨by rfl, fun w hw => ?_⟩) hS ?_
        · go_simp
        simp only [Act.put, List.setIfInBounds_toArray, List.set_cons_zero, List.set_cons_succ]
        refine takeH 14 (some 40) (.pointer (some ⟨g, k * 3, none⟩)) rfl rfl (by kernel_rfl) (by kernel_rfl) (by kernel_rfl) (fun _ _ _ h => h) (Or.inl ⟨by rfl, fun w hw => ?_⟩) hS ?_
        · go_simp
        simp only [Act.put, List.setIfInBounds_toArray, List.set_cons_zero, List.set_cons_succ]
        refine takeH 15 (some 41) (.pointer (some ⟨g, k * 3 + 2, none⟩)) rfl rfl (by kernel_rfl) (by kernel_rfl) (by kernel_rfl) (fun _ _ _ h => h) (Or.inl ⟨by rfl, fun w hw => ?_⟩) hS ?_
        · go_simp
        simp only [Act.put, List.setIfInBounds_toArray, List.set_cons_zero, List.set_cons_succ]
        refine takeH 16 (some 42) (.int .i64 qi) rfl rfl (by kernel_rfl) (by kernel_rfl) (by kernel_rfl) (fun _ _ _ h => h) (Or.inl ⟨by rfl, fun w hw => ?_⟩) hS ?_
        · have := hw.2.2
          go_simp
        simp only [Act.put, List.setIfInBounds_toArray, List.set_cons_zero, List.set_cons_succ]
        refine takeH 17 (some 43) (.agg #[.string qs, .int .i64 qi]) rfl rfl (by kernel_rfl) (by kernel_rfl) (by kernel_rfl) (fun _ _ _ h => h) (Or.inl ⟨by rfl, fun w hw => ?_⟩) hS ?_
        · go_simp
        simp only [Act.put, List.setIfInBounds_toArray, List.set_cons_zero, List.set_cons_succ]
        have hrA := (HR.out.1 : wr.ownsRow w.heap.size 33 2 u5 (lstS (S.take k) d).length (dcells (lstS (S.take k) d)))
        have hyo : some y ≠ u5.ownBlock := fun e => by have := (World.ownsRow.lt hrA _ e.symm).1; omega
        have hgo : some g ≠ u5.ownBlock := fun e => by have := (World.ownsRow.lt hrA _ e.symm).1; omega
        have hS2 : LiS y g k S.length cap qs qi (wr.drew.alloc (.cells #[.string qs, .int .i64 qi] 33)) := hS.keep (World.grownBy_alloc _ _ none) (by simp) (by simp)
        refine wpAnyH_ready (rs := [18]) (by kernel_rfl) (by simp) (AllReadyH.cons rfl (fun K hK => ?_) AllReadyH.nil)
        refine step_alloc rfl (.slice (some ⟨wr.heap.size, 0, none⟩) 1 1) (wr.drew.alloc (.cells #[.string qs, .int .i64 qi] 33)) (by go_simp) ?_
        refine hK.out _ _ hS2 (fun hHeld => ?_)
        clear hK
        obtain ⟨v3, w3, hrun, hrow3, hgr3, _, _⟩ := run_append_own_at (P := Try.prog) (wr.drew.alloc (.cells #[.string qs, .int .i64 qi] 33)) w.heap.size 27 27 33 i0 _ 2 24 Try.underlying27 hi hz0 hz1 hz2 rfl (by decide) u5 _ _ ((show wr.drew.ownsRow w.heap.size 33 2 u5 _ _ from hrA).alloc _) ⟨wr.heap.size, 0, none⟩ 1 1 [.string qs, .int .i64 qi] rfl (World.news_of_block (heap_alloc_last wr.drew _)) (by simp [Value.oneCell']) (by unfold maxLen; have := HLN.out; omega) (by have := HLN.out; omega) (by have := HR.out.2.size; simp; omega)
        have hS3 := hS2.keep hgr3 hyo hgo
        refine wpAnyH_ready (rs := [19]) (by kernel_rfl) (by simp) (AllReadyH.cons rfl (fun K hK => ?_) AllReadyH.nil)
        refine step_app rfl _ _ 27 rfl _ _ v3 w3 rfl rfl hrun ?_
        refine hK.out _ _ hS3 (fun hHeld => ?_)
        clear hK
        refine takeH 20 (some 5) v3 rfl rfl (by kernel_rfl) (by kernel_rfl) (by kernel_rfl) (fun _ _ _ h => h) (Or.inl ⟨by rfl, fun w hw => ?_⟩) hS3 ?_
        · go_simp
        refine wpAnyH_done (by kernel_rfl) ?_ _
        have HF : Hid (LkR w w3 S d v3 (k + 1)) := by
          refine ⟨?_, ?_⟩
          · rw [HST.out]
            unfold RowD
            rw [dcells_snoc, List.length_append]
            exact hrow3
          · have hk1 : Keeps (fun _ => False) w (wr.drew.alloc (.cells #[.string qs, .int .i64 qi] 33)) := (HR.out.2.trans (Keeps.drewN _ wr 1)).alloc _
            exact hk1.step hgr3 (fun k hk => Or.inr (World.ownsRow.lt hrA k hk).1)
        clear hrow3 hgr3 hrun hS hS2 hS3 hrA hyo hgo hHeld
        go_wp2
        go_roundw
        case rel => exact ⟨k + 1, by omega, by go_num, HF⟩
        case measure => simp [intOf]; omega
      · have hd2 : (qd == d) = false := by simpa using hd
        have HF : Hid (LkR w wr S d u5 (k + 1)) := by
          refine ⟨?_, HR.out.2⟩
          rw [hst]; simp only [inDir, hd, Bool.false_eq_true, if_false, List.append_nil]; exact HR.out.1
        clear hst hd
        go_wp2
        go_roundw
        case rel => exact ⟨k + 1, by omega, by go_num, HF⟩
        case measure => simp [intOf]; omega
    · have h1' : ¬ (k : Int) < (S.length : Int) := by omega
      have HE : Hid (S.take k = S) := List.take_of_length_le (by omega)
      go_wp2
      go_ret
      have h1 := HR.out.1
      rw [HE.out] at h1
      obtain ⟨p3, c3, e3⟩ := h1.dsl.shape
      subst e3
      exact ⟨p3, c3, rfl, h1, HR.out.2⟩

theorem ref_len (w : World) (y : Nat) (S : List Rw) (h : RefAt w y S) (d : Int) (hl : S.length < 4000000000000) :
    Calls Try.prog 42 #[.pointer (some ⟨y, 0, none⟩), .int .i64 d] w fun e w' => e = .returned (.int .i64 ((S.filter (inDir d)).length : Int)) ∧ Keeps (fun _ => False) w w' := by
  have h44 := ref_list w y S h d hl
  have hb : (lstS S d).length < 4000000000000 := by rw [lst_len]; have := filt_le S (inDir d); omega
  rw [← lst_len]
  go_enter Try.func42, Try.ntmps42
  go_wp2_with (first | (go_at_call 44; refine h44.mono ?_; rintro e w1 ⟨p, c, rfl, H⟩))
  go_ret
  exact ⟨rfl, H.out.2⟩

end Go.Proofs.Ytendmohjodeelab
