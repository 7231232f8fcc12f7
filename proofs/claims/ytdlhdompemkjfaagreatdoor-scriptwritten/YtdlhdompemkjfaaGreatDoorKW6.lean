import Derived.Test.YtdlhdompemkjfaaGreatDoorKW5
namespace Go.Proofs.YtdlhdompemkjfaaGreatDoor
open Go.RowKit Go.Maps
set_option maxRecDepth 100000

/-! P19.7: the Text of steps is read back as these steps. -/
theorem rdb_read {l : List St} (h : ∀ t ∈ l, Rdb t) : (l.map prF).map lnE = List.replicate l.length 0 ∧ (l.map prF).map lnS = l := by
  induction l with
  | nil => exact ⟨rfl, rfl⟩
  | cons t l ih =>
    obtain ⟨h1, h2⟩ := ih (fun x hx => h x (by simp [hx]))
    have ht := h t (by simp)
    simp only [List.map_cons, List.length_cons, List.replicate_succ]
    exact ⟨by rw [ht.e, h1], by rw [ht.s, h2]⟩
theorem rem_bd (a : Int) (N : Nat) (hN : 0 < N) : -(N : Int) < a.tmod N ∧ a.tmod N < N := by
  have h1 := Int.tmod_lt_of_pos a (show (0 : Int) < N by omega)
  have h2 := Int.lt_tmod_of_pos a (show (0 : Int) < N by omega)
  omega
set_option maxHeartbeats 16000000 in
theorem written_walk (w : World) (hv : Vars w) (mx : Int) (hmx : w.cell? ⟨1, 0, none⟩ = some (.int .i64 mx)) (v : Value) (l : List (St × Value)) (hl : StR w v l) (hn : l.length * 88 ≤ 140737488355328) (hi : ∀ p ∈ l, InH p.1 ∧ (-9223372036854775808 ≤ p.1.kind ∧ p.1.kind ≤ 9223372036854775807)) (at_ : Int) (_hat : -9223372036854775808 ≤ at_ ∧ at_ ≤ 9223372036854775807) :
    Calls Tryz.prog 5 #[v, .int .i64 at_] w fun e w' => e = .returned (.bool true) ∧ Keeps (fun _ => False) w w' := by
  obtain ⟨a, c, rfl, hc, _⟩ := id hl.row
  have HL := Hid.mk' hl
  have HV := Hid.mk' hv
  have HMX := Hid.mk' hmx
  have HI := Hid.mk' hi
  have HN := Hid.mk' hn
  clear hl hv hi hmx
  go_enter Tryz.func5, Tryz.ntmps5
  go_wp2
  go_loopw [5, 6] (fun x i wr => ∃ k : Nat, k ≤ l.length ∧ k ≤ 60 ∧ i = .int .i64 k ∧ ∃ ps, Hid (PR w wr x ps ∧ Keeps (fun _ => False) w wr ∧ ps.map (·.1) = ((l.map (·.1)).take k).map cutF)) (fun _ i _ => l.length - (intOf i).toNat)
  case atStart => exact ⟨0, Nat.zero_le _, Nat.zero_le _, rfl, [], ⟨PR.nil _ _, Keeps.refl _ _, rfl⟩⟩
  case round =>
    obtain ⟨k, hk, hk60, rfl, ps, HD⟩ := hrel
    by_cases h1 : k < l.length
    · by_cases h2 : k < 60
      · have h1' : (k : Int) < (l.length : Int) := by omega
        have h2' : (k : Int) < 60 := by omega
        obtain ⟨⟨t, z⟩, hp⟩ : ∃ p, l[k]? = some p := ⟨l[k], by simp [h1]⟩
        obtain ⟨b, o, c', e, _, hrange⟩ := (HL.out.keep HD.out.2.1).get hp
        injection e with e1 e2 e3
        subst e1 e3
        obtain ⟨p1, c1, hz, _, _⟩ := id (HL.out.ins _ (List.mem_of_getElem? hp))
        dsimp only at hz
        subst hz
        have HR := Hid.mk' hrange
        have HIN := Hid.mk' (HI.out _ (List.mem_of_getElem? hp))
        have HROW := Hid.mk' ((HL.out.ins _ (List.mem_of_getElem? hp)).keep HD.out.2.1)
        have hl1 : (l.map (·.1))[k]? = some t := st_at hp
        have HTK : Hid (((l.map (·.1)).take (k + 1)).map cutF = ((l.map (·.1)).take k).map cutF ++ [cutF t]) := by show _ = _; rw [List.take_add_one, hl1]; simp
        have h14 := cut_own wr t (.slice p1 t.l.length c1) HROW.out HIN.out.2 HIN.out.1.l
        have HPL : Hid (ps.length ≤ 1000) := by have h := congrArg List.length HD.out.2.2; simp only [List.length_map, List.length_take] at h; show _ ≤ _; omega
        clear hrange hp hl1 e2
        have S0 := Hid.mk' True.intro
        go_wp2_with (first
          | (clear S0; refine wpList_load_step rfl _ rfl b (o + k * 7) t (.slice p1 t.l.length c1) (by rfl) HR.out ?_; have S1 := Hid.mk' True.intro)
          | (clear S1; go_at_call 14; refine h14.mono ?_; clear h14; rintro e w2 ⟨v2, rfl, h2⟩; obtain ⟨p2, c2, hv2, _, _⟩ := id (Row.of_own h2.out.1); subst hv2; have H2 := Hid.mk' h2.out; clear h2; have S2 := Hid.mk' True.intro)
          | (clear S2; refine wpList_step1 rfl _ rfl (cutF t) (.slice p2 (cutF t).l.length c2) (by rfl) ?_; have S3 := Hid.mk' True.intro)
          | (clear S3; at_builtin; go_must (refine wpList_appS rfl _ _ rfl w w2 u5 ps (by rfl) (HD.out.1.keep H2.out.2) (HD.out.2.1.trans H2.out.2) (cutF t) p2 (cutF t).l.length c2 (own_base H2.out.1 HD.out.2.1.size) (fun p hp g hg hg2 => by have a := ((HD.out.1.ins p hp).lt g hg).2; have b := (H2.out.1.lt g hg2).1; omega) (by rfl) (by have := HPL.out; have : ps.length ≤ 1000 := HPL.out; omega) ?_); intro v3 W3 hO3 _ hkw3 _; have HO3 : Hid (PR w W3 v3 (ps ++ [(cutF t, .slice p2 (cutF t).l.length c2)]) ∧ Keeps (fun _ => False) w W3) := ⟨hO3, hkw3⟩; clear hO3 hkw3; have S4 := Hid.mk' True.intro))
        go_roundw
        case rel => exact ⟨k + 1, by omega, by omega, by go_num, ps ++ [(cutF t, .slice p2 (cutF t).l.length c2)], ⟨HO3.out.1, HO3.out.2, by rw [HTK.out, ← HD.out.2.2]; simp⟩⟩
        case measure => simp [intOf]; omega
      · have h1' : (k : Int) < (l.length : Int) := by omega
        have h2' : ¬ (k : Int) < 60 := by omega
        obtain ⟨SS, ls, HP, HSS, HLN, HSL⟩ : ∃ SS ls : List St, Hid (PR w wr u5 ps ∧ Keeps (fun _ => False) w wr ∧ ps.map (·.1) = ls) ∧ Hid (∀ t ∈ SS, Rdb t) ∧ Hid (ls.length ≤ 60) ∧ Hid (SS = ls ++ [wkS]) := by
          refine ⟨_, _, ⟨HD.out.1, HD.out.2.1, HD.out.2.2⟩, ?_, ?_, rfl⟩
          · intro t ht
            rcases List.mem_append.1 ht with ht | ht
            · obtain ⟨u, hu, rfl⟩ := List.mem_map.1 ht
              obtain ⟨p, hp, rfl⟩ := List.mem_map.1 (List.mem_of_mem_take hu)
              exact cut_rdb (HI.out p hp).1.i
            · rw [List.mem_singleton.1 ht]; exact wk_rdb
          · show _ ≤ _
            simp; omega
        obtain ⟨N, HNN⟩ : ∃ N, Hid (N = ls.length + 1) := ⟨_, rfl⟩
        have HSN : Hid (SS.length = N) := by show _ = _; rw [HSL.out, HNN.out]; simp
        have hN0 : 0 < N := by have := HNN.out; omega
        have hN61 : N ≤ 61 := by have := HNN.out; have := HLN.out; omega
        have hN0' : ¬ (N : Int) = 0 := by omega
        have hNz : ((N : Int) == 0) = false := beq_eq_false_iff_ne.2 hN0'
        have hNN : ((N : Int) != (N : Int)) = false := by simp
        obtain ⟨TX, HTX⟩ : ∃ TX : ByteArray, Hid (mkB (txF SS) = TX) := ⟨_, rfl⟩
        have HTD : Hid (TX.data.toList = txL SS) := by show _ = _; rw [← HTX.out, data_mkB, txF_all HSS.out]
        have HTS : Hid (TX.size ≤ 1000000) := by
          show _ ≤ _
          rw [size_len, HTD.out]
          have := txL_short HSS.out
          have h2 : SS.length = N := HSN.out
          omega
        obtain ⟨M, hM, hMb⟩ : ∃ M, ∃ h : TX.size = M + 1, TX[M]'(by omega) = 10 := by
          obtain ⟨x, hx⟩ := txL_last ls wkS
          rw [← HSL.out, ← HTD.out] at hx
          have hs : TX.size = x.length + 1 := by rw [size_len, hx]; simp
          refine ⟨x.length, hs, ?_⟩
          rw [byte_getD TX x.length (by omega), hx]
          simp [List.getD_eq_getElem?_getD]
        have hMlt : (M : Int) < (TX.size : Int) := by omega
        have hMlt2 : M < TX.size := by omega
        have hM1 : (TX.size : Int) - 1 = (M : Int) := by omega
        have hMw : wrap64 (M : Int) = (M : Int) := wrap64_id (by omega) (by have := HTS.out; have : TX.size ≤ 1000000 := HTS.out; omega)
        have hMe : (((TX[M]'hMlt2).toNat : Nat) : Int) = 10 := by rw [hMb]; rfl
        have hTE : TX.toList.isEmpty = false := by rw [List.isEmpty_eq_false_iff, Ne, empty_iff]; omega
        have HPRS : Hid (prs TX.data.toList = SS.map prF) := by show _ = _; rw [HTD.out]; exact prs_txL SS HSS.out
        clear HD hMb hM
        have S0 := Hid.mk' True.intro
        go_wp2_with (first
          | (clear S0; refine wpList_buildTo rfl 24 _ rfl _ rfl (scell wkS (.slice none 0 0)) (by kernel_rfl) ?_; have S1 := Hid.mk' True.intro)
          | (clear S1; refine wpList_step1 rfl _ rfl wkS (.slice none 0 0) (by rfl) ?_; have S2 := Hid.mk' True.intro)
          | (clear S2; at_builtin; go_must (refine wpList_appS rfl _ _ rfl w wr u5 ps (by rfl) HP.out.1 HP.out.2.1 wkS none 0 0 (World.ownsRow_nil _ _ _ _) (fun p hp g hg hg2 => by cases hg2) (by rfl) (by have h := congrArg List.length HP.out.2.2; have := HLN.out; simp only [List.length_map] at h; omega) ?_)
             intro v3 W3 hO3 _ hkw3 _
             obtain ⟨qs, HQ, HNL⟩ : ∃ qs, Hid (PR w W3 v3 qs ∧ Keeps (fun _ => False) w W3 ∧ qs.map (·.1) = SS) ∧ Hid (True ∧ qs.length = N) := ⟨_, ⟨hO3, hkw3, by rw [HSL.out, List.map_append, HP.out.2.2]; rfl⟩, trivial, by have h := congrArg List.length HP.out.2.2; have := HNN.out; simp only [List.length_map] at h; simp; omega⟩
             clear hO3 hkw3 HP
             obtain ⟨a3, c3_, hv3, _, _⟩ := id (Row.of_own HQ.out.1.row)
             rw [HNL.out.2] at hv3
             subst hv3
             have S3 := Hid.mk' True.intro)
          | (clear S3; go_at_call 12
             have h12 := text_any W3 (HV.out.keep HQ.out.2.1) _ qs (StR.of_pr HQ.out.1) (by have := HNL.out.2; omega) (fun p hp => (HSS.out p.1 (by rw [← HQ.out.2.2]; exact List.mem_map.2 ⟨p, hp, rfl⟩)).ok)
             rw [HQ.out.2.2, HTX.out] at h12
             refine h12.mono ?_
             clear h12
             rintro e w4 ⟨rfl, hk4⟩
             have HK4 := Hid.mk' hk4
             clear hk4
             have S4 := Hid.mk' True.intro)
          | (clear S4; go_at_call 15
             have h15 := parse_any w4 (HV.out.keep (HQ.out.2.1.trans HK4.out)) mx ((HQ.out.2.1.trans HK4.out).cell HMX.out id) TX HTS.out
             rw [HPRS.out] at h15
             refine h15.mono ?_
             clear h15
             rintro e w5 ⟨vs, ve, pp, rfl, h5⟩
             obtain ⟨hs5, he5, ht5, hk5⟩ := h5.out
             obtain ⟨q1, q2⟩ := rdb_read HSS.out
             rw [q1, HSN.out] at he5
             rw [q2] at ht5
             have HPP : Hid (PR w4 w5 vs pp ∧ ER w4 w5 ve (List.replicate N 0) ∧ pp.map (·.1) = SS ∧ Keeps (fun _ => False) w4 w5) := ⟨hs5, he5, ht5, hk5⟩
             have HPN : Hid (pp.length = N) := by have h := congrArg List.length ht5; rw [List.length_map, HSN.out] at h; exact h
             clear hs5 he5 ht5 hk5 h5 q1 q2
             obtain ⟨a5, c5, hv5, _, _⟩ := id (Row.of_own HPP.out.1.row)
             obtain ⟨a6, c6, hv6, _, _⟩ := id (Row.of_own HPP.out.2.1)
             rw [HPN.out] at hv5
             rw [List.length_replicate] at hv6
             subst hv5
             subst hv6
             have S5 := Hid.mk' True.intro))
        clear S5
        go_loopw [10] (fun i wq => ∃ j : Nat, j ≤ N ∧ i = .int .i64 j ∧ Hid (Keeps (fun _ => False) w5 wq)) (fun i _ => N - (intOf i).toNat)
        case atStart => exact ⟨0, Nat.zero_le _, rfl, Keeps.refl _ _⟩
        case round =>
          obtain ⟨j, hj, rfl, HW5⟩ := hrel
          have HW3 := Hid.mk' ((HK4.out.trans HPP.out.2.2.2).trans HW5.out)
          clear hMlt hMlt2 hM1 hMw hMe hTE
          by_cases hj4 : j < N
          · have h4' : (j : Int) < (N : Int) := by omega
            obtain ⟨⟨t, z3⟩, hp3⟩ : ∃ p, qs[j]? = some p := ⟨qs[j]'(by have := HNL.out.2; omega), by simp [show j < qs.length by have := HNL.out.2; omega]⟩
            obtain ⟨⟨t', z4⟩, hp4⟩ : ∃ p, pp[j]? = some p := ⟨pp[j]'(by have := HPN.out; omega), by simp [show j < pp.length by have := HPN.out; omega]⟩
            have hm3 : SS[j]? = some t := by rw [← HQ.out.2.2]; exact st_at hp3
            have hm4 : SS[j]? = some t' := by rw [← HPP.out.2.2.1]; exact st_at hp4
            obtain rfl : t = t' := by rw [hm3] at hm4; exact Option.some.inj hm4
            obtain ⟨b3, o3, k3, e3, _, hr3⟩ := ((StR.of_pr HQ.out.1).keep HW3.out).get hp3
            obtain ⟨b4, o4, k4, e4, _, hr4⟩ := ((StR.of_pr HPP.out.1).keep HW5.out).get hp4
            obtain ⟨a6', c6', e6, _, hr6⟩ := (Row.of_own HPP.out.2.1).keep HW5.out
            rw [HNL.out.2] at e3
            rw [HPN.out] at e4
            rw [List.length_replicate] at e6 hr6
            injection e3 with e31 e32 e33
            injection e4 with e41 e42 e43
            injection e6 with e61 e62 e63
            subst e31 e33 e41 e43 e61 e63
            obtain ⟨b6, o6, e6, _, hr6b⟩ := hr6 hN0
            subst e6
            have hc6 := hr6b j (.int .i64 0) (by simp [ints, hj4])
            have row3 := ((StR.of_pr HQ.out.1).keep HW3.out).ins _ (List.mem_of_getElem? hp3)
            have row4 := ((StR.of_pr HPP.out.1).keep HW5.out).ins _ (List.mem_of_getElem? hp4)
            obtain ⟨p3, c3, hz3, _, _⟩ := id row3
            obtain ⟨p4, c4, hz4, _, _⟩ := id row4
            dsimp only at hz3 hz4
            subst hz3 hz4
            have HR3 := Hid.mk' row3
            have HR4 := Hid.mk' row4
            have HS0 : Hid (wr.cell? ⟨b6, o6 + j, none⟩ = some (.int .i64 0) ∧ wr.rangeAt b3 (o3 + j * 7) (scell t (.slice p3 t.l.length c3)).toList ∧ wr.rangeAt b4 (o4 + j * 7) (scell t (.slice p4 t.l.length c4)).toList) := ⟨hc6, hr3, hr4⟩
            have HTL : Hid (t.l.length ≤ 4000000000000000000) := by have := (HSS.out t (List.mem_of_getElem? hm3)).ok.l; show _ ≤ _; omega
            clear hr3 hr4 hr6 hr6b hc6 row3 row4 hp3 hp4 hm3 hm4 e32 e42 e62
            go_upto_region 14 with (fail)
            refine wp_region_held_drew (S := fun wx => wx.cell? ⟨b6, o6 + j, none⟩ = some (.int .i64 0) ∧ wx.rangeAt b3 (o3 + j * 7) (scell t (.slice p3 t.l.length c3)).toList ∧ wx.rangeAt b4 (o4 + j * 7) (scell t (.slice p4 t.l.length c4)).toList) (by kernel_rfl) HS0.out (fun hS => ?_)
            refine takeH 0 (some 70) (.slice (some ⟨b6, o6, none⟩) N c6) rfl rfl (by kernel_rfl) (by kernel_rfl) (by kernel_rfl) (fun _ _ _ h => h) (Or.inl ⟨by rfl, fun wx _ => by go_simp⟩) hS ?_
            try simp only [Act.put, List.setIfInBounds_toArray, List.set_cons_zero, List.set_cons_succ]
            refine takeH 1 (some 71) (.int .i64 (j : Int)) rfl rfl (by kernel_rfl) (by kernel_rfl) (by kernel_rfl) (fun _ _ _ h => h) (Or.inl ⟨by rfl, fun wx _ => by go_simp⟩) hS ?_
            try simp only [Act.put, List.setIfInBounds_toArray, List.set_cons_zero, List.set_cons_succ]
            refine takeH 2 (some 72) (.pointer (some ⟨b6, o6 + j, none⟩)) rfl rfl (by kernel_rfl) (by kernel_rfl) (by kernel_rfl) (fun _ _ _ h => h) (Or.inl ⟨by rfl, fun wx _ => by go_simp⟩) hS ?_
            try simp only [Act.put, List.setIfInBounds_toArray, List.set_cons_zero, List.set_cons_succ]
            refine takeH 3 (some 73) (.int .i64 0) rfl rfl (by kernel_rfl) (by kernel_rfl) (by kernel_rfl) (fun _ _ _ h => h) (Or.inl ⟨by rfl, fun wx ⟨s1, _⟩ => by go_simp⟩) hS ?_
            try simp only [Act.put, List.setIfInBounds_toArray, List.set_cons_zero, List.set_cons_succ]
            refine takeH 4 (some 74) (.bool false) rfl rfl (by kernel_rfl) (by kernel_rfl) (by kernel_rfl) (fun _ _ _ h => h) (Or.inl ⟨by rfl, fun wx _ => by go_simp⟩) hS ?_
            try simp only [Act.put, List.setIfInBounds_toArray, List.set_cons_zero, List.set_cons_succ]
            refine takeH 5 (some 75) (.bool false) rfl rfl (by kernel_rfl) (by kernel_rfl) (by kernel_rfl) (fun _ _ _ h => h) (Or.inl ⟨by rfl, fun wx _ => by go_simp⟩) hS ?_
            try simp only [Act.put, List.setIfInBounds_toArray, List.set_cons_zero, List.set_cons_succ]
            refine takeH 6 (some 76) (.slice (some ⟨b3, o3, none⟩) N c3_) rfl rfl (by kernel_rfl) (by kernel_rfl) (by kernel_rfl) (fun _ _ _ h => h) (Or.inl ⟨by rfl, fun wx _ => by go_simp⟩) hS ?_
            try simp only [Act.put, List.setIfInBounds_toArray, List.set_cons_zero, List.set_cons_succ]
            refine takeH 7 (some 77) (.int .i64 (j : Int)) rfl rfl (by kernel_rfl) (by kernel_rfl) (by kernel_rfl) (fun _ _ _ h => h) (Or.inl ⟨by rfl, fun wx _ => by go_simp⟩) hS ?_
            try simp only [Act.put, List.setIfInBounds_toArray, List.set_cons_zero, List.set_cons_succ]
            refine takeH 8 (some 78) (.pointer (some ⟨b3, o3 + j * 7, none⟩)) rfl rfl (by kernel_rfl) (by kernel_rfl) (by kernel_rfl) (fun _ _ _ h => h) (Or.inl ⟨by rfl, fun wx _ => by go_simp⟩) hS ?_
            try simp only [Act.put, List.setIfInBounds_toArray, List.set_cons_zero, List.set_cons_succ]
            refine takeH 9 (some 79) (.agg (scell t (.slice p3 t.l.length c3))) rfl rfl (by kernel_rfl) (by kernel_rfl) (by kernel_rfl) (fun _ _ _ h => h) (yieldsIf_load_mid (by rfl) 24 (.tmp 78) rfl b3 (o3 + j * 7) (by rfl) (scell t (.slice p3 t.l.length c3)).toList _ (fun _ h => h.2.1) Tryz.underlying24 rfl size24) hS ?_
            try simp only [Act.put, List.setIfInBounds_toArray, List.set_cons_zero, List.set_cons_succ]
            refine takeH 10 (some 80) (.slice (some ⟨b4, o4, none⟩) N c5) rfl rfl (by kernel_rfl) (by kernel_rfl) (by kernel_rfl) (fun _ _ _ h => h) (Or.inl ⟨by rfl, fun wx _ => by go_simp⟩) hS ?_
            try simp only [Act.put, List.setIfInBounds_toArray, List.set_cons_zero, List.set_cons_succ]
            refine takeH 11 (some 81) (.int .i64 (j : Int)) rfl rfl (by kernel_rfl) (by kernel_rfl) (by kernel_rfl) (fun _ _ _ h => h) (Or.inl ⟨by rfl, fun wx _ => by go_simp⟩) hS ?_
            try simp only [Act.put, List.setIfInBounds_toArray, List.set_cons_zero, List.set_cons_succ]
            refine takeH 12 (some 82) (.pointer (some ⟨b4, o4 + j * 7, none⟩)) rfl rfl (by kernel_rfl) (by kernel_rfl) (by kernel_rfl) (fun _ _ _ h => h) (Or.inl ⟨by rfl, fun wx _ => by go_simp⟩) hS ?_
            try simp only [Act.put, List.setIfInBounds_toArray, List.set_cons_zero, List.set_cons_succ]
            refine takeH 13 (some 83) (.agg (scell t (.slice p4 t.l.length c4))) rfl rfl (by kernel_rfl) (by kernel_rfl) (by kernel_rfl) (fun _ _ _ h => h) (yieldsIf_load_mid (by rfl) 24 (.tmp 82) rfl b4 (o4 + j * 7) (by rfl) (scell t (.slice p4 t.l.length c4)).toList _ (fun _ h => h.2.2) Tryz.underlying24 rfl size24) hS ?_
            try simp only [Act.put, List.setIfInBounds_toArray, List.set_cons_zero, List.set_cons_succ]
            refine wpAnyH_ready (rs := [14]) (by kernel_rfl) (by simp) (AllReadyH.cons rfl (fun K hK => ?_) AllReadyH.nil)
            go_simp
            go_at_call 10
            refine (lsame_any _ t t _ _ (HR3.out.keep (Keeps.drewN _ wr 1)) (HR4.out.keep (Keeps.drewN _ wr 1)) HTL.out).mono ?_
            rintro e w6 ⟨rfl, hk6⟩
            rw [smF_refl]
            have HK6 := Hid.mk' ((Keeps.drewN (fun _ => False) wr 1).trans hk6)
            refine hK.out _ _ ⟨hk6.cell hS.1 id, fun j u hj => hk6.cell (hS.2.1 j u hj) id, fun j u hj => hk6.cell (hS.2.2 j u hj) id⟩ (fun hS => ?_)
            clear hK hk6
            try simp only [Act.put, List.setIfInBounds_toArray, List.set_cons_zero, List.set_cons_succ]
            refine takeH 15 (some 85) (.bool false) rfl rfl (by kernel_rfl) (by kernel_rfl) (by kernel_rfl) (fun _ _ _ h => h) (Or.inl ⟨by rfl, fun wx _ => by go_simp⟩) hS ?_
            try simp only [Act.put, List.setIfInBounds_toArray, List.set_cons_zero, List.set_cons_succ]
            refine takeH 16 (some 86) (.bool false) rfl rfl (by kernel_rfl) (by kernel_rfl) (by kernel_rfl) (fun _ _ _ h => h) (Or.inl ⟨by rfl, fun wx _ => by go_simp⟩) hS ?_
            try simp only [Act.put, List.setIfInBounds_toArray, List.set_cons_zero, List.set_cons_succ]
            refine wpAnyH_done (by kernel_rfl) ?_ _
            clear hS
            go_wp2
            go_roundw
            case rel => exact ⟨j + 1, by omega, by go_num, HW5.out.trans HK6.out⟩
            case measure => simp [intOf]; omega
          · have h4' : ¬ (j : Int) < (N : Int) := by omega
            have hbd := rem_bd at_ N hN0
            by_cases hr : at_.tmod (N : Int) < 0
            · obtain ⟨R, hR⟩ : ∃ R, at_.tmod (N : Int) = R := ⟨_, rfl⟩
              obtain ⟨A, hA⟩ : ∃ A : Nat, -R = (A : Int) := ⟨(-R).toNat, by omega⟩
              rw [hR] at hr hbd
              have hAN : A < N := by omega
              have hAN' : (A : Int) < (N : Int) := by omega
              clear hbd
              obtain ⟨⟨tA, zA⟩, hqA⟩ : ∃ p, qs[A]? = some p := ⟨qs[A]'(by have := HNL.out.2; omega), by simp [show A < qs.length by have := HNL.out.2; omega]⟩
              obtain ⟨g, cap, eg, hcap, cA, fA, hstA, hkA⟩ := (HQ.out.1.keep HW3.out).kind0 hqA
              rw [HNL.out.2] at eg hcap
              injection eg with e1 e2 e3
              subst e1
              subst e3
              have HKA := Hid.mk' (hkA (HQ.out.2.1.trans HW3.out))
              have h12a := text_any _ (HV.out.keep HKA.out) _ _ hstA (by rw [List.length_set, HNL.out.2]; omega) (fun p hp => by
                have hok : ∀ q ∈ qs, OkS q.1 := fun q hq => (HSS.out q.1 (by rw [← HQ.out.2.2]; exact List.mem_map.2 ⟨q, hq, rfl⟩)).ok
                rcases List.mem_or_eq_of_mem_set hp with hp | rfl
                · exact hok p hp
                · have h := hok _ (List.mem_of_getElem? hqA)
                  exact ⟨h.a, h.b, h.n, h.m, h.k, h.l, h.o⟩)
              rw [txF_zero (k := A) (t := { tA with kind := 0 }) (by rw [List.getElem?_map, List.getElem?_set, if_pos rfl, if_pos (by have := HNL.out.2; omega)]; rfl) rfl] at h12a
              have h12b := fun W h => text_any W h (.slice none 0 0) [] ⟨⟨none, 0, rfl, Nat.le_refl _, fun h => absurd h (by simp)⟩, fun p hp => by cases hp⟩ (by simp) (fun p hp => by cases hp)
              have ez : mkB ([] : Bs) = ⟨#[]⟩ := rfl
              have ez2 : mkB (txF (([] : List (St × Value)).map (·.1))) = ⟨#[]⟩ := rfl
              rw [ez] at h12a
              simp only [ez2] at h12b
              clear hstA hkA hqA ez ez2
              have S0 := Hid.mk' True.intro
              go_wp2_with (first
                | (clear S0; go_at_call 12; refine h12a.mono ?_; clear h12a; rintro e w7 ⟨rfl, hk7⟩; have HK7 := Hid.mk' (HKA.out.trans hk7); clear hk7; have S1 := Hid.mk' True.intro)
                | (clear S1; go_at_call 12; refine (h12b _ (HV.out.keep HK7.out)).mono ?_; clear h12b; rintro e w8 ⟨rfl, hk8⟩; have HK8 := Hid.mk' (HK7.out.trans hk8); clear hk8; have S2 := Hid.mk' True.intro))
              go_ret
              exact ⟨by first | rfl | simp, HK8.out⟩
            · obtain ⟨A, hA⟩ : ∃ A : Nat, at_.tmod (N : Int) = (A : Int) := ⟨(at_.tmod (N : Int)).toNat, by omega⟩
              rw [hA] at hr hbd
              have hAN : A < N := by omega
              have hAN' : (A : Int) < (N : Int) := by omega
              have hA0 : ¬ (A : Int) < 0 := by omega
              clear hbd
              obtain ⟨⟨tA, zA⟩, hqA⟩ : ∃ p, qs[A]? = some p := ⟨qs[A]'(by have := HNL.out.2; omega), by simp [show A < qs.length by have := HNL.out.2; omega]⟩
              obtain ⟨g, cap, eg, hcap, cA, fA, hstA, hkA⟩ := (HQ.out.1.keep HW3.out).kind0 hqA
              rw [HNL.out.2] at eg hcap
              injection eg with e1 e2 e3
              subst e1
              subst e3
              have HKA := Hid.mk' (hkA (HQ.out.2.1.trans HW3.out))
              have h12a := text_any _ (HV.out.keep HKA.out) _ _ hstA (by rw [List.length_set, HNL.out.2]; omega) (fun p hp => by
                have hok : ∀ q ∈ qs, OkS q.1 := fun q hq => (HSS.out q.1 (by rw [← HQ.out.2.2]; exact List.mem_map.2 ⟨q, hq, rfl⟩)).ok
                rcases List.mem_or_eq_of_mem_set hp with hp | rfl
                · exact hok p hp
                · have h := hok _ (List.mem_of_getElem? hqA)
                  exact ⟨h.a, h.b, h.n, h.m, h.k, h.l, h.o⟩)
              rw [txF_zero (k := A) (t := { tA with kind := 0 }) (by rw [List.getElem?_map, List.getElem?_set, if_pos rfl, if_pos (by have := HNL.out.2; omega)]; rfl) rfl] at h12a
              have h12b := fun W h => text_any W h (.slice none 0 0) [] ⟨⟨none, 0, rfl, Nat.le_refl _, fun h => absurd h (by simp)⟩, fun p hp => by cases hp⟩ (by simp) (fun p hp => by cases hp)
              have ez : mkB ([] : Bs) = ⟨#[]⟩ := rfl
              have ez2 : mkB (txF (([] : List (St × Value)).map (·.1))) = ⟨#[]⟩ := rfl
              rw [ez] at h12a
              simp only [ez2] at h12b
              clear hstA hkA hqA ez ez2
              have S0 := Hid.mk' True.intro
              go_wp2_with (first
                | (clear S0; go_at_call 12; refine h12a.mono ?_; clear h12a; rintro e w7 ⟨rfl, hk7⟩; have HK7 := Hid.mk' (HKA.out.trans hk7); clear hk7; have S1 := Hid.mk' True.intro)
                | (clear S1; go_at_call 12; refine (h12b _ (HV.out.keep HK7.out)).mono ?_; clear h12b; rintro e w8 ⟨rfl, hk8⟩; have HK8 := Hid.mk' (HK7.out.trans hk8); clear hk8; have S2 := Hid.mk' True.intro))
              go_ret
              exact ⟨by first | rfl | simp, HK8.out⟩
    · have h1' : ¬ (k : Int) < (l.length : Int) := by omega
      obtain ⟨SS, ls, HP, HSS, HLN, HSL⟩ : ∃ SS ls : List St, Hid (PR w wr u5 ps ∧ Keeps (fun _ => False) w wr ∧ ps.map (·.1) = ls) ∧ Hid (∀ t ∈ SS, Rdb t) ∧ Hid (ls.length ≤ 60) ∧ Hid (SS = ls ++ [wkS]) := by
        refine ⟨_, _, ⟨HD.out.1, HD.out.2.1, HD.out.2.2⟩, ?_, ?_, rfl⟩
        · intro t ht
          rcases List.mem_append.1 ht with ht | ht
          · obtain ⟨u, hu, rfl⟩ := List.mem_map.1 ht
            obtain ⟨p, hp, rfl⟩ := List.mem_map.1 (List.mem_of_mem_take hu)
            exact cut_rdb (HI.out p hp).1.i
          · rw [List.mem_singleton.1 ht]; exact wk_rdb
        · show _ ≤ _
          simp; omega
      obtain ⟨N, HNN⟩ : ∃ N, Hid (N = ls.length + 1) := ⟨_, rfl⟩
      have HSN : Hid (SS.length = N) := by show _ = _; rw [HSL.out, HNN.out]; simp
      have hN0 : 0 < N := by have := HNN.out; omega
      have hN61 : N ≤ 61 := by have := HNN.out; have := HLN.out; omega
      have hN0' : ¬ (N : Int) = 0 := by omega
      have hNz : ((N : Int) == 0) = false := beq_eq_false_iff_ne.2 hN0'
      have hNN : ((N : Int) != (N : Int)) = false := by simp
      obtain ⟨TX, HTX⟩ : ∃ TX : ByteArray, Hid (mkB (txF SS) = TX) := ⟨_, rfl⟩
      have HTD : Hid (TX.data.toList = txL SS) := by show _ = _; rw [← HTX.out, data_mkB, txF_all HSS.out]
      have HTS : Hid (TX.size ≤ 1000000) := by
        show _ ≤ _
        rw [size_len, HTD.out]
        have := txL_short HSS.out
        have h2 : SS.length = N := HSN.out
        omega
      obtain ⟨M, hM, hMb⟩ : ∃ M, ∃ h : TX.size = M + 1, TX[M]'(by omega) = 10 := by
        obtain ⟨x, hx⟩ := txL_last ls wkS
        rw [← HSL.out, ← HTD.out] at hx
        have hs : TX.size = x.length + 1 := by rw [size_len, hx]; simp
        refine ⟨x.length, hs, ?_⟩
        rw [byte_getD TX x.length (by omega), hx]
        simp [List.getD_eq_getElem?_getD]
      have hMlt : (M : Int) < (TX.size : Int) := by omega
      have hMlt2 : M < TX.size := by omega
      have hM1 : (TX.size : Int) - 1 = (M : Int) := by omega
      have hMw : wrap64 (M : Int) = (M : Int) := wrap64_id (by omega) (by have := HTS.out; have : TX.size ≤ 1000000 := HTS.out; omega)
      have hMe : (((TX[M]'hMlt2).toNat : Nat) : Int) = 10 := by rw [hMb]; rfl
      have hTE : TX.toList.isEmpty = false := by rw [List.isEmpty_eq_false_iff, Ne, empty_iff]; omega
      have HPRS : Hid (prs TX.data.toList = SS.map prF) := by show _ = _; rw [HTD.out]; exact prs_txL SS HSS.out
      clear HD hMb hM
      have S0 := Hid.mk' True.intro
      go_wp2_with (first
        | (clear S0; refine wpList_buildTo rfl 24 _ rfl _ rfl (scell wkS (.slice none 0 0)) (by kernel_rfl) ?_; have S1 := Hid.mk' True.intro)
        | (clear S1; refine wpList_step1 rfl _ rfl wkS (.slice none 0 0) (by rfl) ?_; have S2 := Hid.mk' True.intro)
        | (clear S2; at_builtin; go_must (refine wpList_appS rfl _ _ rfl w wr u5 ps (by rfl) HP.out.1 HP.out.2.1 wkS none 0 0 (World.ownsRow_nil _ _ _ _) (fun p hp g hg hg2 => by cases hg2) (by rfl) (by have h := congrArg List.length HP.out.2.2; have := HLN.out; simp only [List.length_map] at h; omega) ?_)
           intro v3 W3 hO3 _ hkw3 _
           obtain ⟨qs, HQ, HNL⟩ : ∃ qs, Hid (PR w W3 v3 qs ∧ Keeps (fun _ => False) w W3 ∧ qs.map (·.1) = SS) ∧ Hid (True ∧ qs.length = N) := ⟨_, ⟨hO3, hkw3, by rw [HSL.out, List.map_append, HP.out.2.2]; rfl⟩, trivial, by have h := congrArg List.length HP.out.2.2; have := HNN.out; simp only [List.length_map] at h; simp; omega⟩
           clear hO3 hkw3 HP
           obtain ⟨a3, c3_, hv3, _, _⟩ := id (Row.of_own HQ.out.1.row)
           rw [HNL.out.2] at hv3
           subst hv3
           have S3 := Hid.mk' True.intro)
        | (clear S3; go_at_call 12
           have h12 := text_any W3 (HV.out.keep HQ.out.2.1) _ qs (StR.of_pr HQ.out.1) (by have := HNL.out.2; omega) (fun p hp => (HSS.out p.1 (by rw [← HQ.out.2.2]; exact List.mem_map.2 ⟨p, hp, rfl⟩)).ok)
           rw [HQ.out.2.2, HTX.out] at h12
           refine h12.mono ?_
           clear h12
           rintro e w4 ⟨rfl, hk4⟩
           have HK4 := Hid.mk' hk4
           clear hk4
           have S4 := Hid.mk' True.intro)
        | (clear S4; go_at_call 15
           have h15 := parse_any w4 (HV.out.keep (HQ.out.2.1.trans HK4.out)) mx ((HQ.out.2.1.trans HK4.out).cell HMX.out id) TX HTS.out
           rw [HPRS.out] at h15
           refine h15.mono ?_
           clear h15
           rintro e w5 ⟨vs, ve, pp, rfl, h5⟩
           obtain ⟨hs5, he5, ht5, hk5⟩ := h5.out
           obtain ⟨q1, q2⟩ := rdb_read HSS.out
           rw [q1, HSN.out] at he5
           rw [q2] at ht5
           have HPP : Hid (PR w4 w5 vs pp ∧ ER w4 w5 ve (List.replicate N 0) ∧ pp.map (·.1) = SS ∧ Keeps (fun _ => False) w4 w5) := ⟨hs5, he5, ht5, hk5⟩
           have HPN : Hid (pp.length = N) := by have h := congrArg List.length ht5; rw [List.length_map, HSN.out] at h; exact h
           clear hs5 he5 ht5 hk5 h5 q1 q2
           obtain ⟨a5, c5, hv5, _, _⟩ := id (Row.of_own HPP.out.1.row)
           obtain ⟨a6, c6, hv6, _, _⟩ := id (Row.of_own HPP.out.2.1)
           rw [HPN.out] at hv5
           rw [List.length_replicate] at hv6
           subst hv5
           subst hv6
           have S5 := Hid.mk' True.intro))
      clear S5
      go_loopw [10] (fun i wq => ∃ j : Nat, j ≤ N ∧ i = .int .i64 j ∧ Hid (Keeps (fun _ => False) w5 wq)) (fun i _ => N - (intOf i).toNat)
      case atStart => exact ⟨0, Nat.zero_le _, rfl, Keeps.refl _ _⟩
      case round =>
        obtain ⟨j, hj, rfl, HW5⟩ := hrel
        have HW3 := Hid.mk' ((HK4.out.trans HPP.out.2.2.2).trans HW5.out)
        clear hMlt hMlt2 hM1 hMw hMe hTE
        by_cases hj4 : j < N
        · have h4' : (j : Int) < (N : Int) := by omega
          obtain ⟨⟨t, z3⟩, hp3⟩ : ∃ p, qs[j]? = some p := ⟨qs[j]'(by have := HNL.out.2; omega), by simp [show j < qs.length by have := HNL.out.2; omega]⟩
          obtain ⟨⟨t', z4⟩, hp4⟩ : ∃ p, pp[j]? = some p := ⟨pp[j]'(by have := HPN.out; omega), by simp [show j < pp.length by have := HPN.out; omega]⟩
          have hm3 : SS[j]? = some t := by rw [← HQ.out.2.2]; exact st_at hp3
          have hm4 : SS[j]? = some t' := by rw [← HPP.out.2.2.1]; exact st_at hp4
          obtain rfl : t = t' := by rw [hm3] at hm4; exact Option.some.inj hm4
          obtain ⟨b3, o3, k3, e3, _, hr3⟩ := ((StR.of_pr HQ.out.1).keep HW3.out).get hp3
          obtain ⟨b4, o4, k4, e4, _, hr4⟩ := ((StR.of_pr HPP.out.1).keep HW5.out).get hp4
          obtain ⟨a6', c6', e6, _, hr6⟩ := (Row.of_own HPP.out.2.1).keep HW5.out
          rw [HNL.out.2] at e3
          rw [HPN.out] at e4
          rw [List.length_replicate] at e6 hr6
          injection e3 with e31 e32 e33
          injection e4 with e41 e42 e43
          injection e6 with e61 e62 e63
          subst e31 e33 e41 e43 e61 e63
          obtain ⟨b6, o6, e6, _, hr6b⟩ := hr6 hN0
          subst e6
          have hc6 := hr6b j (.int .i64 0) (by simp [ints, hj4])
          have row3 := ((StR.of_pr HQ.out.1).keep HW3.out).ins _ (List.mem_of_getElem? hp3)
          have row4 := ((StR.of_pr HPP.out.1).keep HW5.out).ins _ (List.mem_of_getElem? hp4)
          obtain ⟨p3, c3, hz3, _, _⟩ := id row3
          obtain ⟨p4, c4, hz4, _, _⟩ := id row4
          dsimp only at hz3 hz4
          subst hz3 hz4
          have HR3 := Hid.mk' row3
          have HR4 := Hid.mk' row4
          have HS0 : Hid (wr.cell? ⟨b6, o6 + j, none⟩ = some (.int .i64 0) ∧ wr.rangeAt b3 (o3 + j * 7) (scell t (.slice p3 t.l.length c3)).toList ∧ wr.rangeAt b4 (o4 + j * 7) (scell t (.slice p4 t.l.length c4)).toList) := ⟨hc6, hr3, hr4⟩
          have HTL : Hid (t.l.length ≤ 4000000000000000000) := by have := (HSS.out t (List.mem_of_getElem? hm3)).ok.l; show _ ≤ _; omega
          clear hr3 hr4 hr6 hr6b hc6 row3 row4 hp3 hp4 hm3 hm4 e32 e42 e62
          go_upto_region 14 with (fail)
          refine wp_region_held_drew (S := fun wx => wx.cell? ⟨b6, o6 + j, none⟩ = some (.int .i64 0) ∧ wx.rangeAt b3 (o3 + j * 7) (scell t (.slice p3 t.l.length c3)).toList ∧ wx.rangeAt b4 (o4 + j * 7) (scell t (.slice p4 t.l.length c4)).toList) (by kernel_rfl) HS0.out (fun hS => ?_)
          refine takeH 0 (some 70) (.slice (some ⟨b6, o6, none⟩) N c6) rfl rfl (by kernel_rfl) (by kernel_rfl) (by kernel_rfl) (fun _ _ _ h => h) (Or.inl ⟨by rfl, fun wx _ => by go_simp⟩) hS ?_
          try simp only [Act.put, List.setIfInBounds_toArray, List.set_cons_zero, List.set_cons_succ]
          refine takeH 1 (some 71) (.int .i64 (j : Int)) rfl rfl (by kernel_rfl) (by kernel_rfl) (by kernel_rfl) (fun _ _ _ h => h) (Or.inl ⟨by rfl, fun wx _ => by go_simp⟩) hS ?_
          try simp only [Act.put, List.setIfInBounds_toArray, List.set_cons_zero, List.set_cons_succ]
          refine takeH 2 (some 72) (.pointer (some ⟨b6, o6 + j, none⟩)) rfl rfl (by kernel_rfl) (by kernel_rfl) (by kernel_rfl) (fun _ _ _ h => h) (Or.inl ⟨by rfl, fun wx _ => by go_simp⟩) hS ?_
          try simp only [Act.put, List.setIfInBounds_toArray, List.set_cons_zero, List.set_cons_succ]
          refine takeH 3 (some 73) (.int .i64 0) rfl rfl (by kernel_rfl) (by kernel_rfl) (by kernel_rfl) (fun _ _ _ h => h) (Or.inl ⟨by rfl, fun wx ⟨s1, _⟩ => by go_simp⟩) hS ?_
          try simp only [Act.put, List.setIfInBounds_toArray, List.set_cons_zero, List.set_cons_succ]
          refine takeH 4 (some 74) (.bool false) rfl rfl (by kernel_rfl) (by kernel_rfl) (by kernel_rfl) (fun _ _ _ h => h) (Or.inl ⟨by rfl, fun wx _ => by go_simp⟩) hS ?_
          try simp only [Act.put, List.setIfInBounds_toArray, List.set_cons_zero, List.set_cons_succ]
          refine takeH 5 (some 75) (.bool false) rfl rfl (by kernel_rfl) (by kernel_rfl) (by kernel_rfl) (fun _ _ _ h => h) (Or.inl ⟨by rfl, fun wx _ => by go_simp⟩) hS ?_
          try simp only [Act.put, List.setIfInBounds_toArray, List.set_cons_zero, List.set_cons_succ]
          refine takeH 6 (some 76) (.slice (some ⟨b3, o3, none⟩) N c3_) rfl rfl (by kernel_rfl) (by kernel_rfl) (by kernel_rfl) (fun _ _ _ h => h) (Or.inl ⟨by rfl, fun wx _ => by go_simp⟩) hS ?_
          try simp only [Act.put, List.setIfInBounds_toArray, List.set_cons_zero, List.set_cons_succ]
          refine takeH 7 (some 77) (.int .i64 (j : Int)) rfl rfl (by kernel_rfl) (by kernel_rfl) (by kernel_rfl) (fun _ _ _ h => h) (Or.inl ⟨by rfl, fun wx _ => by go_simp⟩) hS ?_
          try simp only [Act.put, List.setIfInBounds_toArray, List.set_cons_zero, List.set_cons_succ]
          refine takeH 8 (some 78) (.pointer (some ⟨b3, o3 + j * 7, none⟩)) rfl rfl (by kernel_rfl) (by kernel_rfl) (by kernel_rfl) (fun _ _ _ h => h) (Or.inl ⟨by rfl, fun wx _ => by go_simp⟩) hS ?_
          try simp only [Act.put, List.setIfInBounds_toArray, List.set_cons_zero, List.set_cons_succ]
          refine takeH 9 (some 79) (.agg (scell t (.slice p3 t.l.length c3))) rfl rfl (by kernel_rfl) (by kernel_rfl) (by kernel_rfl) (fun _ _ _ h => h) (yieldsIf_load_mid (by rfl) 24 (.tmp 78) rfl b3 (o3 + j * 7) (by rfl) (scell t (.slice p3 t.l.length c3)).toList _ (fun _ h => h.2.1) Tryz.underlying24 rfl size24) hS ?_
          try simp only [Act.put, List.setIfInBounds_toArray, List.set_cons_zero, List.set_cons_succ]
          refine takeH 10 (some 80) (.slice (some ⟨b4, o4, none⟩) N c5) rfl rfl (by kernel_rfl) (by kernel_rfl) (by kernel_rfl) (fun _ _ _ h => h) (Or.inl ⟨by rfl, fun wx _ => by go_simp⟩) hS ?_
          try simp only [Act.put, List.setIfInBounds_toArray, List.set_cons_zero, List.set_cons_succ]
          refine takeH 11 (some 81) (.int .i64 (j : Int)) rfl rfl (by kernel_rfl) (by kernel_rfl) (by kernel_rfl) (fun _ _ _ h => h) (Or.inl ⟨by rfl, fun wx _ => by go_simp⟩) hS ?_
          try simp only [Act.put, List.setIfInBounds_toArray, List.set_cons_zero, List.set_cons_succ]
          refine takeH 12 (some 82) (.pointer (some ⟨b4, o4 + j * 7, none⟩)) rfl rfl (by kernel_rfl) (by kernel_rfl) (by kernel_rfl) (fun _ _ _ h => h) (Or.inl ⟨by rfl, fun wx _ => by go_simp⟩) hS ?_
          try simp only [Act.put, List.setIfInBounds_toArray, List.set_cons_zero, List.set_cons_succ]
          refine takeH 13 (some 83) (.agg (scell t (.slice p4 t.l.length c4))) rfl rfl (by kernel_rfl) (by kernel_rfl) (by kernel_rfl) (fun _ _ _ h => h) (yieldsIf_load_mid (by rfl) 24 (.tmp 82) rfl b4 (o4 + j * 7) (by rfl) (scell t (.slice p4 t.l.length c4)).toList _ (fun _ h => h.2.2) Tryz.underlying24 rfl size24) hS ?_
          try simp only [Act.put, List.setIfInBounds_toArray, List.set_cons_zero, List.set_cons_succ]
          refine wpAnyH_ready (rs := [14]) (by kernel_rfl) (by simp) (AllReadyH.cons rfl (fun K hK => ?_) AllReadyH.nil)
          go_simp
          go_at_call 10
          refine (lsame_any _ t t _ _ (HR3.out.keep (Keeps.drewN _ wr 1)) (HR4.out.keep (Keeps.drewN _ wr 1)) HTL.out).mono ?_
          rintro e w6 ⟨rfl, hk6⟩
          rw [smF_refl]
          have HK6 := Hid.mk' ((Keeps.drewN (fun _ => False) wr 1).trans hk6)
          refine hK.out _ _ ⟨hk6.cell hS.1 id, fun j u hj => hk6.cell (hS.2.1 j u hj) id, fun j u hj => hk6.cell (hS.2.2 j u hj) id⟩ (fun hS => ?_)
          clear hK hk6
          try simp only [Act.put, List.setIfInBounds_toArray, List.set_cons_zero, List.set_cons_succ]
          refine takeH 15 (some 85) (.bool false) rfl rfl (by kernel_rfl) (by kernel_rfl) (by kernel_rfl) (fun _ _ _ h => h) (Or.inl ⟨by rfl, fun wx _ => by go_simp⟩) hS ?_
          try simp only [Act.put, List.setIfInBounds_toArray, List.set_cons_zero, List.set_cons_succ]
          refine takeH 16 (some 86) (.bool false) rfl rfl (by kernel_rfl) (by kernel_rfl) (by kernel_rfl) (fun _ _ _ h => h) (Or.inl ⟨by rfl, fun wx _ => by go_simp⟩) hS ?_
          try simp only [Act.put, List.setIfInBounds_toArray, List.set_cons_zero, List.set_cons_succ]
          refine wpAnyH_done (by kernel_rfl) ?_ _
          clear hS
          go_wp2
          go_roundw
          case rel => exact ⟨j + 1, by omega, by go_num, HW5.out.trans HK6.out⟩
          case measure => simp [intOf]; omega
        · have h4' : ¬ (j : Int) < (N : Int) := by omega
          have hbd := rem_bd at_ N hN0
          by_cases hr : at_.tmod (N : Int) < 0
          · obtain ⟨R, hR⟩ : ∃ R, at_.tmod (N : Int) = R := ⟨_, rfl⟩
            obtain ⟨A, hA⟩ : ∃ A : Nat, -R = (A : Int) := ⟨(-R).toNat, by omega⟩
            rw [hR] at hr hbd
            have hAN : A < N := by omega
            have hAN' : (A : Int) < (N : Int) := by omega
            clear hbd
            obtain ⟨⟨tA, zA⟩, hqA⟩ : ∃ p, qs[A]? = some p := ⟨qs[A]'(by have := HNL.out.2; omega), by simp [show A < qs.length by have := HNL.out.2; omega]⟩
            obtain ⟨g, cap, eg, hcap, cA, fA, hstA, hkA⟩ := (HQ.out.1.keep HW3.out).kind0 hqA
            rw [HNL.out.2] at eg hcap
            injection eg with e1 e2 e3
            subst e1
            subst e3
            have HKA := Hid.mk' (hkA (HQ.out.2.1.trans HW3.out))
            have h12a := text_any _ (HV.out.keep HKA.out) _ _ hstA (by rw [List.length_set, HNL.out.2]; omega) (fun p hp => by
              have hok : ∀ q ∈ qs, OkS q.1 := fun q hq => (HSS.out q.1 (by rw [← HQ.out.2.2]; exact List.mem_map.2 ⟨q, hq, rfl⟩)).ok
              rcases List.mem_or_eq_of_mem_set hp with hp | rfl
              · exact hok p hp
              · have h := hok _ (List.mem_of_getElem? hqA)
                exact ⟨h.a, h.b, h.n, h.m, h.k, h.l, h.o⟩)
            rw [txF_zero (k := A) (t := { tA with kind := 0 }) (by rw [List.getElem?_map, List.getElem?_set, if_pos rfl, if_pos (by have := HNL.out.2; omega)]; rfl) rfl] at h12a
            have h12b := fun W h => text_any W h (.slice none 0 0) [] ⟨⟨none, 0, rfl, Nat.le_refl _, fun h => absurd h (by simp)⟩, fun p hp => by cases hp⟩ (by simp) (fun p hp => by cases hp)
            have ez : mkB ([] : Bs) = ⟨#[]⟩ := rfl
            have ez2 : mkB (txF (([] : List (St × Value)).map (·.1))) = ⟨#[]⟩ := rfl
            rw [ez] at h12a
            simp only [ez2] at h12b
            clear hstA hkA hqA ez ez2
            have S0 := Hid.mk' True.intro
            go_wp2_with (first
              | (clear S0; go_at_call 12; refine h12a.mono ?_; clear h12a; rintro e w7 ⟨rfl, hk7⟩; have HK7 := Hid.mk' (HKA.out.trans hk7); clear hk7; have S1 := Hid.mk' True.intro)
              | (clear S1; go_at_call 12; refine (h12b _ (HV.out.keep HK7.out)).mono ?_; clear h12b; rintro e w8 ⟨rfl, hk8⟩; have HK8 := Hid.mk' (HK7.out.trans hk8); clear hk8; have S2 := Hid.mk' True.intro))
            go_ret
            exact ⟨by first | rfl | simp, HK8.out⟩
          · obtain ⟨A, hA⟩ : ∃ A : Nat, at_.tmod (N : Int) = (A : Int) := ⟨(at_.tmod (N : Int)).toNat, by omega⟩
            rw [hA] at hr hbd
            have hAN : A < N := by omega
            have hAN' : (A : Int) < (N : Int) := by omega
            have hA0 : ¬ (A : Int) < 0 := by omega
            clear hbd
            obtain ⟨⟨tA, zA⟩, hqA⟩ : ∃ p, qs[A]? = some p := ⟨qs[A]'(by have := HNL.out.2; omega), by simp [show A < qs.length by have := HNL.out.2; omega]⟩
            obtain ⟨g, cap, eg, hcap, cA, fA, hstA, hkA⟩ := (HQ.out.1.keep HW3.out).kind0 hqA
            rw [HNL.out.2] at eg hcap
            injection eg with e1 e2 e3
            subst e1
            subst e3
            have HKA := Hid.mk' (hkA (HQ.out.2.1.trans HW3.out))
            have h12a := text_any _ (HV.out.keep HKA.out) _ _ hstA (by rw [List.length_set, HNL.out.2]; omega) (fun p hp => by
              have hok : ∀ q ∈ qs, OkS q.1 := fun q hq => (HSS.out q.1 (by rw [← HQ.out.2.2]; exact List.mem_map.2 ⟨q, hq, rfl⟩)).ok
              rcases List.mem_or_eq_of_mem_set hp with hp | rfl
              · exact hok p hp
              · have h := hok _ (List.mem_of_getElem? hqA)
                exact ⟨h.a, h.b, h.n, h.m, h.k, h.l, h.o⟩)
            rw [txF_zero (k := A) (t := { tA with kind := 0 }) (by rw [List.getElem?_map, List.getElem?_set, if_pos rfl, if_pos (by have := HNL.out.2; omega)]; rfl) rfl] at h12a
            have h12b := fun W h => text_any W h (.slice none 0 0) [] ⟨⟨none, 0, rfl, Nat.le_refl _, fun h => absurd h (by simp)⟩, fun p hp => by cases hp⟩ (by simp) (fun p hp => by cases hp)
            have ez : mkB ([] : Bs) = ⟨#[]⟩ := rfl
            have ez2 : mkB (txF (([] : List (St × Value)).map (·.1))) = ⟨#[]⟩ := rfl
            rw [ez] at h12a
            simp only [ez2] at h12b
            clear hstA hkA hqA ez ez2
            have S0 := Hid.mk' True.intro
            go_wp2_with (first
              | (clear S0; go_at_call 12; refine h12a.mono ?_; clear h12a; rintro e w7 ⟨rfl, hk7⟩; have HK7 := Hid.mk' (HKA.out.trans hk7); clear hk7; have S1 := Hid.mk' True.intro)
              | (clear S1; go_at_call 12; refine (h12b _ (HV.out.keep HK7.out)).mono ?_; clear h12b; rintro e w8 ⟨rfl, hk8⟩; have HK8 := Hid.mk' (HK7.out.trans hk8); clear hk8; have S2 := Hid.mk' True.intro))
            go_ret
            exact ⟨by first | rfl | simp, HK8.out⟩
end Go.Proofs.YtdlhdompemkjfaaGreatDoor
