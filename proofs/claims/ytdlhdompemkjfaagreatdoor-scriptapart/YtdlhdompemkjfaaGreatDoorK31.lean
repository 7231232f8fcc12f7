import Derived.Test.YtdlhdompemkjfaaGreatDoorK30
import Derived.Test.YtdlhdompemkjfaaGreatDoorK21
namespace Go.Proofs.YtdlhdompemkjfaaGreatDoor
open Go.RowKit Go.Maps
set_option maxRecDepth 100000

/-! The document's Print. -/
theorem prF_none {t : St} (h : numOf t.kind = none) : prF t = [] := by
  unfold prF
  have e : wrF t = [] := by unfold wrF; rw [h]
  rw [e]
  split <;> rfl
theorem not_num {n : Int} (h : numOf n = none) : n < 1 ∨ 22 ≤ n := by
  by_cases h1 : n < 1
  · exact Or.inl h1
  · by_cases h2 : 22 ≤ n
    · exact Or.inr h2
    · obtain ⟨k, e, _⟩ := num_kd n ⟨by omega, by omega⟩
      rw [h] at e; cases e
theorem Row.cellAt {W : World} {b o n c m : Nat} {xs : List Value} (h : Row W (.slice (some ⟨b, o, none⟩) n c) m xs) {j : Nat} {u : Value} (hj : xs[j]? = some u) (hm : xs.length = m := by simp [ints]) : W.cell? ⟨b, o + j, none⟩ = some u := by
  obtain ⟨a, c', e, _, hc⟩ := h
  cases e
  have : j < xs.length := (List.getElem?_eq_some_iff.1 hj).1
  obtain ⟨b', o', e, _, hc⟩ := hc (by omega)
  cases e
  exact hc j u hj
theorem fx_len : ∀ k ∈ kds, (fxA k.args).length ≤ 3 := by decide
set_option maxHeartbeats 16000000 in
theorem rprint_any (w : World) (kv : KV w) (t : St) (v : Value) (hr : Row w v t.l.length (ints t.l)) (ho : OkS t) :
    Calls Tryz.prog 11 #[.agg (scell t v)] w fun e w' => e = .returned (.string (mkB (prF t))) ∧ Keeps (fun _ => False) w w' := by
  obtain ⟨p, c, rfl, _, _⟩ := id hr
  cases hk : numOf t.kind with
  | none =>
    have HK0 := Hid.mk' ((Keeps.refl (fun _ => False) w).alloc (.cells (scell t (.slice p t.l.length c)) 24))
    rw [prF_none hk]
    have hout := not_num hk
    unfold scell at *
    clear hr ho kv hk
    rcases hout with h1 | h1
    · go_enter Tryz.func11, Tryz.ntmps11
      go_wp2
      go_ret
      exact ⟨rfl, HK0.out⟩
    · have h0 : ¬ t.kind < 1 := by omega
      go_enter Tryz.func11, Tryz.ntmps11
      go_wp2
      go_ret
      exact ⟨rfl, HK0.out⟩
  | some k =>
    obtain ⟨hmem, hnum⟩ := mem_kds hk
    obtain ⟨i, hi⟩ := List.mem_iff_getElem?.1 hmem
    have hat := kd_at hi
    obtain ⟨m, hm⟩ : ∃ m, m = i + 1 := ⟨_, rfl⟩
    have hkd : t.kind = (m : Int) := by rw [← hnum, hat.1]; omega
    have hkn : k.num = (m : Int) := by rw [hat.1]; omega
    have e := fun v => show scell t v = #[.int .i64 (m : Int), .string t.a, .string t.b, .int .i64 t.n, .int .i64 t.m, .int .i64 t.k, v] by unfold scell; rw [hkd]
    have HE := Hid.mk' e
    have HK0 := Hid.mk' ((Keeps.refl (fun _ => False) w).alloc (.cells (scell t (.slice p t.l.length c)) 24))
    have HB0 := Hid.mk' (heap_last w (.cells (scell t (.slice p t.l.length c)) 24))
    have HKV := Hid.mk' (kv.keep HK0.out)
    have hc0 := (HKV.out i k hi).1
    have h20 : ∀ W, KV W → Calls Tryz.prog 20 #[.int .i64 (m : Int)] W fun e w' => e = .returned (.tuple #[.string (lets (fxA k.args)), .bool (fxL k.args)]) ∧ Keeps (fun _ => False) W w' := fun W h => by
      have := rfixed_any W h k hmem
      rw [hkn] at this; exact this
    have h21 := fun a ha W => rarg_any a ha W t p t.l.length c ho
    have HROW := Hid.mk' (hr.keep HK0.out)
    have HO := Hid.mk' ho
    have hm22 : (m : Int) < 22 := by omega
    have hm1 : ¬ (m : Int) < 1 := by omega
    have hm23 : ¬ (22 : Int) ≤ (m : Int) := by omega
    have h24 := fun W (v z : Value) (hr : Row W v t.l.length (ints t.l)) (hz : Row W z (lnS (wrF t)).l.length (ints (lnS (wrF t)).l)) => rsame_any W t (lnS (wrF t)) v z hr hz (by have := ho.l; omega)
    have HW : Hid (wrF t = k.word.data.toList ++ fxW (fxA k.args) t ++ (if fxL k.args then lsW t.l else [])) := by
      show _ = _
      rw [show wrF t = line k t by unfold wrF; rw [hk], line_eq hmem]
    have HP : Hid (prF t = if okF t = true then wrF t else []) := rfl
    have HOK : Hid (okF t = (decide (lnE (wrF t) = 0) && smF (lnS (wrF t)) t)) := rfl
    have h23 := fun W h => rline_any W h (mkB (wrF t))
    have hmk : (mkB (wrF t)).data.toList = wrF t := by simp [mkB]
    have HLL := Hid.mk' (lnS_len (wrF t))
    have HWL := Hid.mk' (kd_word k hmem)
    have HFL := Hid.mk' (fx_len k hmem)
    have HNL := Hid.mk' (fx_nolist k.args)
    simp only [hmk] at h23
    rw [← hm] at hc0
    clear hmk hi hat hnum hkn hk hmem kv hr ho hm
    generalize lnS (wrF t) = u at *
    generalize lnE (wrF t) = E at *
    generalize prF t = PR at *
    generalize fxA k.args = FA at *
    generalize fxL k.args = FL at *
    generalize k.word = WD at *
    have HLS := Hid.mk' (lets_size FA)
    simp only [e] at HK0 HB0 HKV hc0 h21 h24 HROW ⊢
    clear e hkd HE
    go_enter Tryz.func11, Tryz.ntmps11
    have S0 := Hid.mk' True.intro
    go_wp2_with (first
      | (clear S0; at_builtin; go_must (refine wpList_apt rfl _ _ rfl (w.alloc (.cells #[.int .i64 (m : Int), .string t.a, .string t.b, .int .i64 t.n, .int .i64 t.m, .int .i64 t.k, .slice p t.l.length c] 24)) (w.alloc (.cells #[.int .i64 (m : Int), .string t.a, .string t.b, .int .i64 t.n, .int .i64 t.m, .int .i64 t.k, .slice p t.l.length c] 24)) (.slice none 0 0) [] (by rfl) (OB.nil _) WD (by rfl) (by have := HWL.out; rw [← size_len] at this; simp only [List.length_nil]; omega) ?_); intro v1 W1 hO1; rw [List.nil_append] at hO1; have HO1 := Hid.mk' hO1; have c01 := hO1.2.cell (new_cell w #[.int .i64 (m : Int), .string t.a, .string t.b, .int .i64 t.n, .int .i64 t.m, .int .i64 t.k, .slice p t.l.length c] 24 0 (.int .i64 (m : Int)) rfl) id; clear hO1; have S1 := Hid.mk' True.intro)
      | (clear S1; go_at_call 20; refine (h20 _ (HKV.out.keep HO1.out.2)).mono ?_; clear h20; rintro e w2 ⟨rfl, hk2⟩; have HO2 := Hid.mk' (HO1.out.keep hk2); clear hk2 HO1; have S2 := Hid.mk' True.intro))
    clear S2 hc0 hm1 hm23 hm22 c01
    go_loopw [3, 6] (fun v i wr => ∃ j : Nat, j ≤ (lets FA).size ∧ i = .int .i64 j ∧ Hid (OB (w.alloc (.cells #[.int .i64 (m : Int), .string t.a, .string t.b, .int .i64 t.n, .int .i64 t.m, .int .i64 t.k, .slice p t.l.length c] 24)) wr v (WD.data.toList ++ fxW (FA.take j) t))) (fun _ i _ => (lets FA).size - (intOf i).toNat)
    case atStart => exact ⟨0, Nat.zero_le _, rfl, by have h := HO2.out; refine Hid.mk' ?_; simpa [fxW] using h⟩
    case round =>
      obtain ⟨j, hj, rfl, HR⟩ := hrel
      clear HO2
      by_cases h1 : j < (lets FA).size
      · have h1' : (j : Int) < ((lets FA).size : Int) := by omega
        have h3 : (lets FA).size ≤ 3 := by have := HLS.out; have := HFL.out; omega
        obtain ⟨a, ha⟩ : ∃ a, FA[j]? = some a := ⟨FA[j]'(by have := HLS.out; omega), by simp [show j < FA.length by have := HLS.out; omega]⟩
        have HT := Hid.mk' (fxW_take t ha)
        have hby := lett_byte FA j a ha h1
        have h21a := h21 a (HNL.out a (List.mem_of_getElem? ha))
        have HAL := Hid.mk' (agF_le (a := a) HO.out)
        have HLen : Hid ((WD.data.toList ++ fxW (FA.take j) t).length ≤ 100000000) := by
          show _ ≤ _
          have := fxW_le HO.out (FA.take j)
          have h2 : (FA.take j).length ≤ 3 := by have := HFL.out; simp; omega
          have h3 := HWL.out
          rw [List.length_append]; omega
        clear h21 ha h23 h24
        go_upto_region 10 with (first
          | (at_builtin; go_must (refine wpList_app rfl _ _ rfl (w.alloc (.cells #[.int .i64 (m : Int), .string t.a, .string t.b, .int .i64 t.n, .int .i64 t.m, .int .i64 t.k, .slice p t.l.length c] 24)) wr u3 _ (by rfl) HR.out [32] 1 rfl _ (by rfl) (by rfl) (by have := HLen.out; simp only [List.length_append, List.length_singleton] at *; omega) ?_); intro v3 W3 hO3; have HO3 := Hid.mk' hO3; clear hO3 HR))
        have HS : Hid (W3.rangeAt w.heap.size 0 (#[.int .i64 (m : Int), .string t.a, .string t.b, .int .i64 t.n, .int .i64 t.m, .int .i64 t.k, .slice p t.l.length c] : Array Value).toList) := rangeAt_block (HO3.out.2.at HB0.out id) #[.int .i64 (m : Int), .string t.a, .string t.b, .int .i64 t.n, .int .i64 t.m, .int .i64 t.k, .slice p t.l.length c]
        refine wp_region_held_drew (S := fun wx => wx.rangeAt w.heap.size 0 (#[.int .i64 (m : Int), .string t.a, .string t.b, .int .i64 t.n, .int .i64 t.m, .int .i64 t.k, .slice p t.l.length c] : Array Value).toList) (by kernel_rfl) HS.out (fun hS => ?_)
        refine takeH 0 (some 41) v3 rfl rfl (by kernel_rfl) (by kernel_rfl) (by kernel_rfl) (fun _ _ _ h => h) (Or.inl ⟨by rfl, fun wx _ => by go_simp⟩) hS ?_
        try simp only [Act.put, List.setIfInBounds_toArray, List.set_cons_zero, List.set_cons_succ]
        refine takeH 1 (some 42) (.agg #[.int .i64 (m : Int), .string t.a, .string t.b, .int .i64 t.n, .int .i64 t.m, .int .i64 t.k, .slice p t.l.length c]) rfl rfl (by kernel_rfl) (by kernel_rfl) (by kernel_rfl) (fun _ _ _ h => h) (yieldsIf_load_mid (by rfl) 24 (.tmp 1) rfl w.heap.size 0 (by rfl) (#[.int .i64 (m : Int), .string t.a, .string t.b, .int .i64 t.n, .int .i64 t.m, .int .i64 t.k, .slice p t.l.length c] : Array Value).toList _ (fun _ h => h) Tryz.underlying24 rfl size24) hS ?_
        try simp only [Act.put, List.setIfInBounds_toArray, List.set_cons_zero, List.set_cons_succ]
        refine takeH 2 (some 43) (.string (lets FA)) rfl rfl (by kernel_rfl) (by kernel_rfl) (by kernel_rfl) (fun _ _ _ h => h) (Or.inl ⟨by rfl, fun wx _ => by go_simp⟩) hS ?_
        try simp only [Act.put, List.setIfInBounds_toArray, List.set_cons_zero, List.set_cons_succ]
        refine takeH 3 (some 44) (.int .i64 (j : Int)) rfl rfl (by kernel_rfl) (by kernel_rfl) (by kernel_rfl) (fun _ _ _ h => h) (Or.inl ⟨by rfl, fun wx _ => by go_simp⟩) hS ?_
        try simp only [Act.put, List.setIfInBounds_toArray, List.set_cons_zero, List.set_cons_succ]
        refine takeH 4 (some 45) (.int .u8 (((lett a).toNat : Nat) : Int)) rfl rfl (by kernel_rfl) (by kernel_rfl) (by kernel_rfl) (fun _ _ _ h => h) (Or.inl ⟨by rfl, fun wx _ => by rw [← hby]; go_simp⟩) hS ?_
        try simp only [Act.put, List.setIfInBounds_toArray, List.set_cons_zero, List.set_cons_succ]
        refine wpAnyH_ready (rs := [5]) (by kernel_rfl) (by simp) (AllReadyH.cons rfl (fun K hK => ?_) AllReadyH.nil)
        go_simp
        go_at_call 21
        refine (h21a _).mono ?_
        clear h21a
        rintro e w4 ⟨rfl, hk4⟩
        have HO4 := Hid.mk' ((HO3.out.keep (Keeps.drewN _ W3 1)).keep hk4)
        refine hK.out _ _ (fun j u hj => hk4.cell (hS j u hj) id) (fun hS => ?_)
        clear hK hk4 HO3
        try simp only [Act.put, List.setIfInBounds_toArray, List.set_cons_zero, List.set_cons_succ]
        refine wpAnyH_ready (rs := [6]) (by kernel_rfl) (by simp) (AllReadyH.cons rfl (fun K hK => ?_) AllReadyH.nil)
        rw [if_pos (by rfl)]
        refine wp_apt (.tmp 41) (.tmp 46) rfl (w.alloc (.cells #[.int .i64 (m : Int), .string t.a, .string t.b, .int .i64 t.n, .int .i64 t.m, .int .i64 t.k, .slice p t.l.length c] 24)) w4 v3 _ (by rfl) HO4.out (mkB (agF a t)) (by rfl) (by have := HLen.out; have := HAL.out; rw [mkB_size]; simp only [List.length_append, List.length_singleton] at *; omega) ?_
        intro v5 W5 hO5
        have HO5 := Hid.mk' hO5
        refine hK.out _ _ (rangeAt_block (hO5.2.at HB0.out id) #[.int .i64 (m : Int), .string t.a, .string t.b, .int .i64 t.n, .int .i64 t.m, .int .i64 t.k, .slice p t.l.length c]) (fun hS => ?_)
        clear hK hO5
        try simp only [Act.put, List.setIfInBounds_toArray]
        refine takeH 7 (some 3) v5 rfl rfl (by kernel_rfl) (by kernel_rfl) (by kernel_rfl) (fun _ _ _ h => h) (Or.inl ⟨by rfl, fun wx _ => by go_simp⟩) hS ?_
        try simp only [Act.put]
        refine wpAnyH_done (by kernel_rfl) ?_ _
        clear hS
        go_wp2
        go_roundw
        case rel => exact ⟨j + 1, by omega, by go_num, by rw [HT.out, ← List.append_assoc, ← List.append_assoc]; have h := HO5.out; rw [data_mkB] at h; exact h⟩
        case measure => simp [intOf]; omega
      · have h1' : ¬ (j : Int) < ((lets FA).size : Int) := by omega
        have HF : Hid (OB (w.alloc (.cells #[.int .i64 (m : Int), .string t.a, .string t.b, .int .i64 t.n, .int .i64 t.m, .int .i64 t.k, .slice p t.l.length c] 24)) wr u3 (WD.data.toList ++ fxW FA t)) := by
          have h := HR.out
          rw [List.take_of_length_le (by have := HLS.out; omega)] at h
          exact h
        clear HR h21
        go_wp2
        go_loopw [3, 7] (fun v i wq => ∃ q : Nat, q ≤ t.l.length ∧ i = .int .i64 q ∧ Hid (OB (w.alloc (.cells #[.int .i64 (m : Int), .string t.a, .string t.b, .int .i64 t.n, .int .i64 t.m, .int .i64 t.k, .slice p t.l.length c] 24)) wq v (WD.data.toList ++ fxW FA t ++ lsW (t.l.take q))) ∧ (FL = false → q = 0)) (fun _ i _ => t.l.length - (intOf i).toNat)
        case atStart => exact ⟨0, Nat.zero_le _, rfl, by have h := HF.out; refine Hid.mk' ?_; simpa [lsW] using h, fun _ => rfl⟩
        case round =>
          obtain ⟨q, hq, rfl, HQ, hFq⟩ := hrel
          clear HF
          have c6 : wr.cell? ⟨w.heap.size, 6, none⟩ = some (.slice p t.l.length c) := HQ.out.2.cell (new_cell w #[.int .i64 (m : Int), .string t.a, .string t.b, .int .i64 t.n, .int .i64 t.m, .int .i64 t.k, .slice p t.l.length c] 24 6 (.slice p t.l.length c) rfl) id
          cases FL with
          | false =>
            obtain rfl : q = 0 := hFq rfl
            have HFIN : Hid (OB (w.alloc (.cells #[.int .i64 (m : Int), .string t.a, .string t.b, .int .i64 t.n, .int .i64 t.m, .int .i64 t.k, .slice p t.l.length c] 24)) wr u3 (wrF t)) := by
              have h := HQ.out
              rw [List.take_zero] at h
              refine Hid.mk' ?_
              rw [HW.out]
              simpa [lsW] using h
            clear HQ hFq
            have hcv := conv_row _ _ _ HFIN.out.row
            have HFK := Hid.mk' HFIN.out.2
            have h23a := h23 wr (HKV.out.keep HFK.out)
            clear h23 HFIN
            by_cases hE : E = 0
            · subst hE
              have hSM : okF t = smF u t := by rw [HOK.out]; simp
              rcases Bool.eq_false_or_eq_true (smF u t) with hb | hb
              · have HR : Hid (PR = wrF t) := by show _ = _; rw [HP.out, if_pos (by rw [hSM, hb])]
                clear hSM
                have S0 := Hid.mk' True.intro
                go_wp2_with (first
                  | (clear S0; go_at_call 23; refine h23a.mono ?_; clear h23a; rintro e w2 ⟨v2, rfl, h2⟩; obtain ⟨p2, c2, hv2, _, _⟩ := id (Row.of_own h2.out.1); subst hv2; have H2 := Hid.mk' h2.out; have HK3 := Hid.mk' (HFK.out.trans (h2.out.2.alloc (.cells (scell u (.slice p2 u.l.length c2)) 24))); have n0 := new_cell w2 (scell u (.slice p2 u.l.length c2)) 24 0 (.int .i64 u.kind) rfl; have d0 := HK3.out.cell (new_cell w #[.int .i64 (m : Int), .string t.a, .string t.b, .int .i64 t.n, .int .i64 t.m, .int .i64 t.k, .slice p t.l.length c] 24 0 (.int .i64 (m : Int)) rfl) id; have n1 := new_cell w2 (scell u (.slice p2 u.l.length c2)) 24 1 (.string u.a) rfl; have d1 := HK3.out.cell (new_cell w #[.int .i64 (m : Int), .string t.a, .string t.b, .int .i64 t.n, .int .i64 t.m, .int .i64 t.k, .slice p t.l.length c] 24 1 (.string t.a) rfl) id; have n2 := new_cell w2 (scell u (.slice p2 u.l.length c2)) 24 2 (.string u.b) rfl; have d2 := HK3.out.cell (new_cell w #[.int .i64 (m : Int), .string t.a, .string t.b, .int .i64 t.n, .int .i64 t.m, .int .i64 t.k, .slice p t.l.length c] 24 2 (.string t.b) rfl) id; have n3 := new_cell w2 (scell u (.slice p2 u.l.length c2)) 24 3 (.int .i64 u.n) rfl; have d3 := HK3.out.cell (new_cell w #[.int .i64 (m : Int), .string t.a, .string t.b, .int .i64 t.n, .int .i64 t.m, .int .i64 t.k, .slice p t.l.length c] 24 3 (.int .i64 t.n) rfl) id; have n4 := new_cell w2 (scell u (.slice p2 u.l.length c2)) 24 4 (.int .i64 u.m) rfl; have d4 := HK3.out.cell (new_cell w #[.int .i64 (m : Int), .string t.a, .string t.b, .int .i64 t.n, .int .i64 t.m, .int .i64 t.k, .slice p t.l.length c] 24 4 (.int .i64 t.m) rfl) id; have n5 := new_cell w2 (scell u (.slice p2 u.l.length c2)) 24 5 (.int .i64 u.k) rfl; have d5 := HK3.out.cell (new_cell w #[.int .i64 (m : Int), .string t.a, .string t.b, .int .i64 t.n, .int .i64 t.m, .int .i64 t.k, .slice p t.l.length c] 24 5 (.int .i64 t.k) rfl) id; have n6 := new_cell w2 (scell u (.slice p2 u.l.length c2)) 24 6 (.slice p2 u.l.length c2) rfl; have d6 := HK3.out.cell (new_cell w #[.int .i64 (m : Int), .string t.a, .string t.b, .int .i64 t.n, .int .i64 t.m, .int .i64 t.k, .slice p t.l.length c] 24 6 (.slice p t.l.length c) rfl) id; clear h2; have S3 := Hid.mk' True.intro)
                  | (clear S3; refine wpList_alloc_st rfl rfl ?_; have S4 := Hid.mk' True.intro)
                  | (clear S4; refine wpList_store_st rfl _ _ rfl u p2 u.l.length c2 (by rfl) (by rfl) ?_; have S5 := Hid.mk' True.intro)
                  | (clear S5; go_at_call 24; refine (h24 _ _ _ (HROW.out.keep HK3.out) ((Row.of_own H2.out.1).keep ((Keeps.refl (fun _ => False) w2).alloc _))).mono ?_; clear h24; rintro e w4 ⟨rfl, hk4⟩; have HK4 := Hid.mk' hk4; rw [smF_comm, hb]; clear hk4; have S8 := Hid.mk' True.intro))
                go_ret
                exact ⟨by rw [HR.out]; first | done | rfl, (HK0.out.trans HK3.out).trans HK4.out⟩
              · have HR : Hid (PR = []) := by show _ = _; rw [HP.out, if_neg (by rw [hSM, hb]; decide)]
                clear hSM
                have S0 := Hid.mk' True.intro
                go_wp2_with (first
                  | (clear S0; go_at_call 23; refine h23a.mono ?_; clear h23a; rintro e w2 ⟨v2, rfl, h2⟩; obtain ⟨p2, c2, hv2, _, _⟩ := id (Row.of_own h2.out.1); subst hv2; have H2 := Hid.mk' h2.out; have HK3 := Hid.mk' (HFK.out.trans (h2.out.2.alloc (.cells (scell u (.slice p2 u.l.length c2)) 24))); have n0 := new_cell w2 (scell u (.slice p2 u.l.length c2)) 24 0 (.int .i64 u.kind) rfl; have d0 := HK3.out.cell (new_cell w #[.int .i64 (m : Int), .string t.a, .string t.b, .int .i64 t.n, .int .i64 t.m, .int .i64 t.k, .slice p t.l.length c] 24 0 (.int .i64 (m : Int)) rfl) id; have n1 := new_cell w2 (scell u (.slice p2 u.l.length c2)) 24 1 (.string u.a) rfl; have d1 := HK3.out.cell (new_cell w #[.int .i64 (m : Int), .string t.a, .string t.b, .int .i64 t.n, .int .i64 t.m, .int .i64 t.k, .slice p t.l.length c] 24 1 (.string t.a) rfl) id; have n2 := new_cell w2 (scell u (.slice p2 u.l.length c2)) 24 2 (.string u.b) rfl; have d2 := HK3.out.cell (new_cell w #[.int .i64 (m : Int), .string t.a, .string t.b, .int .i64 t.n, .int .i64 t.m, .int .i64 t.k, .slice p t.l.length c] 24 2 (.string t.b) rfl) id; have n3 := new_cell w2 (scell u (.slice p2 u.l.length c2)) 24 3 (.int .i64 u.n) rfl; have d3 := HK3.out.cell (new_cell w #[.int .i64 (m : Int), .string t.a, .string t.b, .int .i64 t.n, .int .i64 t.m, .int .i64 t.k, .slice p t.l.length c] 24 3 (.int .i64 t.n) rfl) id; have n4 := new_cell w2 (scell u (.slice p2 u.l.length c2)) 24 4 (.int .i64 u.m) rfl; have d4 := HK3.out.cell (new_cell w #[.int .i64 (m : Int), .string t.a, .string t.b, .int .i64 t.n, .int .i64 t.m, .int .i64 t.k, .slice p t.l.length c] 24 4 (.int .i64 t.m) rfl) id; have n5 := new_cell w2 (scell u (.slice p2 u.l.length c2)) 24 5 (.int .i64 u.k) rfl; have d5 := HK3.out.cell (new_cell w #[.int .i64 (m : Int), .string t.a, .string t.b, .int .i64 t.n, .int .i64 t.m, .int .i64 t.k, .slice p t.l.length c] 24 5 (.int .i64 t.k) rfl) id; have n6 := new_cell w2 (scell u (.slice p2 u.l.length c2)) 24 6 (.slice p2 u.l.length c2) rfl; have d6 := HK3.out.cell (new_cell w #[.int .i64 (m : Int), .string t.a, .string t.b, .int .i64 t.n, .int .i64 t.m, .int .i64 t.k, .slice p t.l.length c] 24 6 (.slice p t.l.length c) rfl) id; clear h2; have S3 := Hid.mk' True.intro)
                  | (clear S3; refine wpList_alloc_st rfl rfl ?_; have S4 := Hid.mk' True.intro)
                  | (clear S4; refine wpList_store_st rfl _ _ rfl u p2 u.l.length c2 (by rfl) (by rfl) ?_; have S5 := Hid.mk' True.intro)
                  | (clear S5; go_at_call 24; refine (h24 _ _ _ (HROW.out.keep HK3.out) ((Row.of_own H2.out.1).keep ((Keeps.refl (fun _ => False) w2).alloc _))).mono ?_; clear h24; rintro e w4 ⟨rfl, hk4⟩; have HK4 := Hid.mk' hk4; rw [smF_comm, hb]; clear hk4; have S8 := Hid.mk' True.intro))
                go_ret
                exact ⟨by rw [HR.out]; rfl, (HK0.out.trans HK3.out).trans HK4.out⟩
            · have hE' : (E == 0) = false := beq_eq_false_iff_ne.2 hE
              have HR : Hid (PR = []) := by show _ = _; rw [HP.out, if_neg (by rw [HOK.out, decide_eq_false hE]; simp)]
              have S0 := Hid.mk' True.intro
              go_wp2_with (first
                | (clear S0; go_at_call 23; refine h23a.mono ?_; clear h23a; rintro e w2 ⟨v2, rfl, h2⟩; obtain ⟨p2, c2, hv2, _, _⟩ := id (Row.of_own h2.out.1); subst hv2; have H2 := Hid.mk' h2.out; have HK3 := Hid.mk' (HFK.out.trans (h2.out.2.alloc (.cells (scell u (.slice p2 u.l.length c2)) 24))); clear h2; have S3 := Hid.mk' True.intro)
                | (clear S3; refine wpList_alloc_st rfl rfl ?_; have S4 := Hid.mk' True.intro)
                | (clear S4; refine wpList_store_st rfl _ _ rfl u p2 u.l.length c2 (by rfl) (by rfl) ?_; have S5 := Hid.mk' True.intro))
              go_ret
              exact ⟨by rw [HR.out]; rfl, HK0.out.trans HK3.out⟩
          | true =>
            clear hFq
            by_cases h2 : q < t.l.length
            · have h2' : (q : Int) < (t.l.length : Int) := by omega
              have h3 : t.l.length ≤ 1000000 := HO.out.l
              obtain ⟨n, hn⟩ : ∃ n, t.l[q]? = some n := ⟨t.l[q], by simp [h2]⟩
              obtain ⟨p', c', hpc, _, hcell⟩ := HROW.out.keep HQ.out.2
              injection hpc with e1 e2 e3
              subst e1
              obtain ⟨b, o, hp, hb, hc2⟩ := hcell (by omega)
              subst hp
              have hld := hc2 q _ (ints_get hn)
              have hbn := HO.out.o n (List.mem_of_getElem? hn)
              have HT := Hid.mk' (lsW_take hn)
              have HNN := Hid.mk' (itoa_len20 hbn)
              have HLen : Hid ((WD.data.toList ++ fxW FA t ++ lsW (t.l.take q)).length ≤ 200000000) := by
                show _ ≤ _
                have h3 := fxW_le HO.out FA
                have h4 := lsW_le (l := t.l.take q) (fun x hx => HO.out.o x (List.mem_of_mem_take hx))
                have h5 : (t.l.take q).length ≤ 1000000 := by have := HO.out.l; simp; omega
                have h6 := HWL.out
                have h7 := HFL.out
                rw [List.length_append, List.length_append]; omega
              have h22 := fun W => show_any W n hbn
              have HN0 := Hid.mk' (ints_get hn)
              clear hc2 hb hcell e2 e3 hn hbn h23 h24
              have S0 := Hid.mk' True.intro
              go_wp2_with (first
                | (clear S0; at_builtin; go_must (refine wpList_app rfl _ _ rfl (w.alloc (.cells #[.int .i64 (m : Int), .string t.a, .string t.b, .int .i64 t.n, .int .i64 t.m, .int .i64 t.k, .slice (some ⟨b, o, none⟩) t.l.length c] 24)) wr u3 _ (by rfl) HQ.out [32] 1 rfl _ (by rfl) (by rfl) (by have := HLen.out; simp only [List.length_append, List.length_singleton] at *; omega) ?_); intro v3 W3 hO3; have HO3 := Hid.mk' hO3; have c63 := hO3.2.cell (new_cell w #[.int .i64 (m : Int), .string t.a, .string t.b, .int .i64 t.n, .int .i64 t.m, .int .i64 t.k, .slice (some ⟨b, o, none⟩) t.l.length c] 24 6 (.slice (some ⟨b, o, none⟩) t.l.length c) rfl) id; have hld3 := (HROW.out.keep hO3.2).cellAt HN0.out; clear hO3; have S1 := Hid.mk' True.intro)
                | (clear S1; go_at_call 22; refine (h22 _).mono ?_; clear h22; rintro e w4 ⟨rfl, hk4⟩; have HO4 := Hid.mk' (HO3.out.keep hk4); clear hk4; have S2 := Hid.mk' True.intro)
                | (clear S2; at_builtin; go_must (refine wpList_apt rfl _ _ rfl (w.alloc (.cells #[.int .i64 (m : Int), .string t.a, .string t.b, .int .i64 t.n, .int .i64 t.m, .int .i64 t.k, .slice (some ⟨b, o, none⟩) t.l.length c] 24)) w4 v3 _ (by rfl) HO4.out (mkB (Lib.itoa n)) (by rfl) (by have := HLen.out; have := HNN.out; rw [mkB_size]; simp only [List.length_append, List.length_singleton] at *; omega) ?_); intro v5 W5 hO5; rw [data_mkB] at hO5; have HO5 := Hid.mk' hO5; clear hO5; have S3 := Hid.mk' True.intro))
              go_roundw
              case rel => exact ⟨q + 1, by omega, by go_num, by rw [HT.out, ← List.append_assoc, ← List.append_assoc]; exact HO5.out, by intro h; cases h⟩
              case measure => simp [intOf]; omega
            · have h2' : ¬ (q : Int) < (t.l.length : Int) := by omega
              have HFIN : Hid (OB (w.alloc (.cells #[.int .i64 (m : Int), .string t.a, .string t.b, .int .i64 t.n, .int .i64 t.m, .int .i64 t.k, .slice p t.l.length c] 24)) wr u3 (wrF t)) := by
                have h := HQ.out
                rw [List.take_of_length_le (by omega)] at h
                rw [HW.out]
                exact h
              clear HQ
              have hcv := conv_row _ _ _ HFIN.out.row
              have HFK := Hid.mk' HFIN.out.2
              have h23a := h23 wr (HKV.out.keep HFK.out)
              clear h23 HFIN
              by_cases hE : E = 0
              · subst hE
                have hSM : okF t = smF u t := by rw [HOK.out]; simp
                rcases Bool.eq_false_or_eq_true (smF u t) with hb | hb
                · have HR : Hid (PR = wrF t) := by show _ = _; rw [HP.out, if_pos (by rw [hSM, hb])]
                  clear hSM
                  have S0 := Hid.mk' True.intro
                  go_wp2_with (first
                    | (clear S0; go_at_call 23; refine h23a.mono ?_; clear h23a; rintro e w2 ⟨v2, rfl, h2⟩; obtain ⟨p2, c2, hv2, _, _⟩ := id (Row.of_own h2.out.1); subst hv2; have H2 := Hid.mk' h2.out; have HK3 := Hid.mk' (HFK.out.trans (h2.out.2.alloc (.cells (scell u (.slice p2 u.l.length c2)) 24))); have n0 := new_cell w2 (scell u (.slice p2 u.l.length c2)) 24 0 (.int .i64 u.kind) rfl; have d0 := HK3.out.cell (new_cell w #[.int .i64 (m : Int), .string t.a, .string t.b, .int .i64 t.n, .int .i64 t.m, .int .i64 t.k, .slice p t.l.length c] 24 0 (.int .i64 (m : Int)) rfl) id; have n1 := new_cell w2 (scell u (.slice p2 u.l.length c2)) 24 1 (.string u.a) rfl; have d1 := HK3.out.cell (new_cell w #[.int .i64 (m : Int), .string t.a, .string t.b, .int .i64 t.n, .int .i64 t.m, .int .i64 t.k, .slice p t.l.length c] 24 1 (.string t.a) rfl) id; have n2 := new_cell w2 (scell u (.slice p2 u.l.length c2)) 24 2 (.string u.b) rfl; have d2 := HK3.out.cell (new_cell w #[.int .i64 (m : Int), .string t.a, .string t.b, .int .i64 t.n, .int .i64 t.m, .int .i64 t.k, .slice p t.l.length c] 24 2 (.string t.b) rfl) id; have n3 := new_cell w2 (scell u (.slice p2 u.l.length c2)) 24 3 (.int .i64 u.n) rfl; have d3 := HK3.out.cell (new_cell w #[.int .i64 (m : Int), .string t.a, .string t.b, .int .i64 t.n, .int .i64 t.m, .int .i64 t.k, .slice p t.l.length c] 24 3 (.int .i64 t.n) rfl) id; have n4 := new_cell w2 (scell u (.slice p2 u.l.length c2)) 24 4 (.int .i64 u.m) rfl; have d4 := HK3.out.cell (new_cell w #[.int .i64 (m : Int), .string t.a, .string t.b, .int .i64 t.n, .int .i64 t.m, .int .i64 t.k, .slice p t.l.length c] 24 4 (.int .i64 t.m) rfl) id; have n5 := new_cell w2 (scell u (.slice p2 u.l.length c2)) 24 5 (.int .i64 u.k) rfl; have d5 := HK3.out.cell (new_cell w #[.int .i64 (m : Int), .string t.a, .string t.b, .int .i64 t.n, .int .i64 t.m, .int .i64 t.k, .slice p t.l.length c] 24 5 (.int .i64 t.k) rfl) id; have n6 := new_cell w2 (scell u (.slice p2 u.l.length c2)) 24 6 (.slice p2 u.l.length c2) rfl; have d6 := HK3.out.cell (new_cell w #[.int .i64 (m : Int), .string t.a, .string t.b, .int .i64 t.n, .int .i64 t.m, .int .i64 t.k, .slice p t.l.length c] 24 6 (.slice p t.l.length c) rfl) id; clear h2; have S3 := Hid.mk' True.intro)
                    | (clear S3; refine wpList_alloc_st rfl rfl ?_; have S4 := Hid.mk' True.intro)
                    | (clear S4; refine wpList_store_st rfl _ _ rfl u p2 u.l.length c2 (by rfl) (by rfl) ?_; have S5 := Hid.mk' True.intro)
                    | (clear S5; go_at_call 24; refine (h24 _ _ _ (HROW.out.keep HK3.out) ((Row.of_own H2.out.1).keep ((Keeps.refl (fun _ => False) w2).alloc _))).mono ?_; clear h24; rintro e w4 ⟨rfl, hk4⟩; have HK4 := Hid.mk' hk4; rw [smF_comm, hb]; clear hk4; have S8 := Hid.mk' True.intro))
                  go_ret
                  exact ⟨by rw [HR.out]; first | done | rfl, (HK0.out.trans HK3.out).trans HK4.out⟩
                · have HR : Hid (PR = []) := by show _ = _; rw [HP.out, if_neg (by rw [hSM, hb]; decide)]
                  clear hSM
                  have S0 := Hid.mk' True.intro
                  go_wp2_with (first
                    | (clear S0; go_at_call 23; refine h23a.mono ?_; clear h23a; rintro e w2 ⟨v2, rfl, h2⟩; obtain ⟨p2, c2, hv2, _, _⟩ := id (Row.of_own h2.out.1); subst hv2; have H2 := Hid.mk' h2.out; have HK3 := Hid.mk' (HFK.out.trans (h2.out.2.alloc (.cells (scell u (.slice p2 u.l.length c2)) 24))); have n0 := new_cell w2 (scell u (.slice p2 u.l.length c2)) 24 0 (.int .i64 u.kind) rfl; have d0 := HK3.out.cell (new_cell w #[.int .i64 (m : Int), .string t.a, .string t.b, .int .i64 t.n, .int .i64 t.m, .int .i64 t.k, .slice p t.l.length c] 24 0 (.int .i64 (m : Int)) rfl) id; have n1 := new_cell w2 (scell u (.slice p2 u.l.length c2)) 24 1 (.string u.a) rfl; have d1 := HK3.out.cell (new_cell w #[.int .i64 (m : Int), .string t.a, .string t.b, .int .i64 t.n, .int .i64 t.m, .int .i64 t.k, .slice p t.l.length c] 24 1 (.string t.a) rfl) id; have n2 := new_cell w2 (scell u (.slice p2 u.l.length c2)) 24 2 (.string u.b) rfl; have d2 := HK3.out.cell (new_cell w #[.int .i64 (m : Int), .string t.a, .string t.b, .int .i64 t.n, .int .i64 t.m, .int .i64 t.k, .slice p t.l.length c] 24 2 (.string t.b) rfl) id; have n3 := new_cell w2 (scell u (.slice p2 u.l.length c2)) 24 3 (.int .i64 u.n) rfl; have d3 := HK3.out.cell (new_cell w #[.int .i64 (m : Int), .string t.a, .string t.b, .int .i64 t.n, .int .i64 t.m, .int .i64 t.k, .slice p t.l.length c] 24 3 (.int .i64 t.n) rfl) id; have n4 := new_cell w2 (scell u (.slice p2 u.l.length c2)) 24 4 (.int .i64 u.m) rfl; have d4 := HK3.out.cell (new_cell w #[.int .i64 (m : Int), .string t.a, .string t.b, .int .i64 t.n, .int .i64 t.m, .int .i64 t.k, .slice p t.l.length c] 24 4 (.int .i64 t.m) rfl) id; have n5 := new_cell w2 (scell u (.slice p2 u.l.length c2)) 24 5 (.int .i64 u.k) rfl; have d5 := HK3.out.cell (new_cell w #[.int .i64 (m : Int), .string t.a, .string t.b, .int .i64 t.n, .int .i64 t.m, .int .i64 t.k, .slice p t.l.length c] 24 5 (.int .i64 t.k) rfl) id; have n6 := new_cell w2 (scell u (.slice p2 u.l.length c2)) 24 6 (.slice p2 u.l.length c2) rfl; have d6 := HK3.out.cell (new_cell w #[.int .i64 (m : Int), .string t.a, .string t.b, .int .i64 t.n, .int .i64 t.m, .int .i64 t.k, .slice p t.l.length c] 24 6 (.slice p t.l.length c) rfl) id; clear h2; have S3 := Hid.mk' True.intro)
                    | (clear S3; refine wpList_alloc_st rfl rfl ?_; have S4 := Hid.mk' True.intro)
                    | (clear S4; refine wpList_store_st rfl _ _ rfl u p2 u.l.length c2 (by rfl) (by rfl) ?_; have S5 := Hid.mk' True.intro)
                    | (clear S5; go_at_call 24; refine (h24 _ _ _ (HROW.out.keep HK3.out) ((Row.of_own H2.out.1).keep ((Keeps.refl (fun _ => False) w2).alloc _))).mono ?_; clear h24; rintro e w4 ⟨rfl, hk4⟩; have HK4 := Hid.mk' hk4; rw [smF_comm, hb]; clear hk4; have S8 := Hid.mk' True.intro))
                  go_ret
                  exact ⟨by rw [HR.out]; rfl, (HK0.out.trans HK3.out).trans HK4.out⟩
              · have hE' : (E == 0) = false := beq_eq_false_iff_ne.2 hE
                have HR : Hid (PR = []) := by show _ = _; rw [HP.out, if_neg (by rw [HOK.out, decide_eq_false hE]; simp)]
                have S0 := Hid.mk' True.intro
                go_wp2_with (first
                  | (clear S0; go_at_call 23; refine h23a.mono ?_; clear h23a; rintro e w2 ⟨v2, rfl, h2⟩; obtain ⟨p2, c2, hv2, _, _⟩ := id (Row.of_own h2.out.1); subst hv2; have H2 := Hid.mk' h2.out; have HK3 := Hid.mk' (HFK.out.trans (h2.out.2.alloc (.cells (scell u (.slice p2 u.l.length c2)) 24))); clear h2; have S3 := Hid.mk' True.intro)
                  | (clear S3; refine wpList_alloc_st rfl rfl ?_; have S4 := Hid.mk' True.intro)
                  | (clear S4; refine wpList_store_st rfl _ _ rfl u p2 u.l.length c2 (by rfl) (by rfl) ?_; have S5 := Hid.mk' True.intro))
                go_ret
                exact ⟨by rw [HR.out]; rfl, HK0.out.trans HK3.out⟩
end Go.Proofs.YtdlhdompemkjfaaGreatDoor
