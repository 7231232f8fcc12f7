import Derived.Test.YtdlhdompemkjfaaGreatDoorKW9
namespace Go.Proofs.YtdlhdompemkjfaaGreatDoor
open Go.RowKit Go.Maps
set_option maxRecDepth 100000

/-! P19.8: the Lists that Line and Parse tell are new memory, each its own. -/
theorem field6 (W : World) (t : St) (p : Option Addr) (n c : Nat) : (Instr.field 24 (.agg (scell t (.slice p n c))) 6).run Tryz.prog W = .ok (.slice p n c) W := by kernel_rfl
theorem tx_data {t : St} (h : Rdb t) : (mkB (prF t) ++ ⟨#[10]⟩ ++ mkB (prF t) ++ ⟨#[10]⟩ : ByteArray).data.toList = txL [t, t] ∧ prs (txL [t, t]) = [prF t, prF t] := by
  have hall : ∀ x ∈ [t, t], Rdb x := fun x hx => by
    simp only [List.mem_cons, List.not_mem_nil, or_false] at hx
    rcases hx with rfl | rfl <;> exact h
  rw [← tx_two h, data_mkB, txF_all hall]
  exact ⟨rfl, prs_txL _ hall⟩
theorem parse_two (w : World) (hv : Vars w) (mx : Int) (hm : w.cell? ⟨1, 0, none⟩ = some (.int .i64 mx)) {t : St} (h : Rdb t) (X : ByteArray) (hp : mkB (prF t) = X) :
    Calls Tryz.prog 15 #[.string (X ++ ⟨#[10]⟩ ++ X ++ ⟨#[10]⟩)] w fun e w' => ∃ vs ve z0 z1, e = .returned (.tuple #[vs, ve]) ∧ Hid (PR w w' vs [(t, z0), (t, z1)] ∧ w'.ownsRow w.heap.size 35 1 ve 2 (ints [0, 0]) ∧ Keeps (fun _ => False) w w') := by
  subst hp
  have hd := tx_data h
  have hs : (mkB (prF t) ++ ⟨#[10]⟩ ++ mkB (prF t) ++ ⟨#[10]⟩ : ByteArray).size ≤ 1000000 := by
    rw [size_len, hd.1]
    have := txL_len [t, t]
    simp only [List.length_cons, List.length_nil] at this
    omega
  have hpp := parse_any w hv mx hm _ hs
  rw [hd.1, hd.2] at hpp
  refine hpp.mono ?_
  rintro e w1 ⟨vs, ve, pp, rfl, h1⟩
  obtain ⟨a, b, c, d⟩ := h1.out
  simp only [List.map_cons, List.map_nil, h.e, h.s] at b c
  match pp, c with
  | [(ta, z0), (tb, z1)], c =>
    simp only [List.map_cons, List.map_nil, List.cons.injEq, and_true] at c
    obtain ⟨rfl, rfl⟩ := c
    exact ⟨vs, ve, z0, z1, rfl, a, b, d⟩
set_option maxHeartbeats 32000000 in
theorem apart_walk (w : World) (hv : Vars w) (mx : Int) (hmx : w.cell? ⟨1, 0, none⟩ = some (.int .i64 mx)) (v : Value) (l : List Int) (hr : Row w v l.length (ints l)) (ho : OkI l) (hl : l.length * 8 ≤ 140737488355328) :
    Calls Tryz.prog 6 #[v] w fun e w' => e = .returned (.bool true) ∧ Keeps (fun _ => False) w w' := by
  obtain ⟨a, c, rfl, hc, _⟩ := id hr
  obtain ⟨M, HM⟩ : ∃ M : List Int, Hid (M = l.take 300) := ⟨_, rfl⟩
  have hM300 : M.length ≤ 300 := by rw [HM.out, List.length_take]; omega
  have HOM : Hid (OkI M) := by
    intro x hx
    rw [HM.out] at hx
    exact ho x (List.mem_of_mem_take hx)
  have HRM : Hid (Row w (.slice a M.length c) M.length (ints M)) := by
    have h := hr.take M.length (by rw [HM.out, List.length_take]; omega)
    have e : l.take M.length = M := by rw [HM.out, List.length_take, List.take_eq_take_iff]; omega
    rw [e] at h
    exact h
  have HML : Hid (M.length = min 300 l.length) := by show _ = _; rw [HM.out, List.length_take]
  have HV := Hid.mk' hv
  have HMX := Hid.mk' hmx
  have HRD := Hid.mk' (cs_rdb hM300 HOM.out)
  obtain ⟨PR, HPR⟩ : ∃ PR, Hid (mkB (prF (csS M)) = PR) := ⟨_, rfl⟩
  have hPS : PR.size ≤ 20000 := by rw [← HPR.out, mkB_size]; exact prF_len _
  have hPE : PR.toList.isEmpty = false := by
    rw [← HPR.out, ByteArray.toList_eq, data_mkB, List.isEmpty_eq_false_iff]
    exact HRD.out.ne
  clear hr hv hmx ho
  go_enter Tryz.func6, Tryz.ntmps6
  go_upto_if 21 with (fail)

  go_cut [0, 21] from 21 to 23 (fun x _ wx => x = .slice a M.length c ∧ wx = w)
  case first =>
    by_cases h3 : 300 < l.length
    · have h3' : (300 : Int) < (l.length : Int) := by omega
      have hcc : (300 : Int) ≤ (c : Int) := by omega
      go_wp2
      go_meet
      case rel => exact ⟨by rw [show M.length = 300 by have := HML.out; omega], rfl⟩
    · have h3' : ¬ (300 : Int) < (l.length : Int) := by omega
      go_wp2
      go_meet
      case rel => exact ⟨by rw [show M.length = l.length by have := HML.out; omega], rfl⟩
  case rest =>
    obtain ⟨hcut1, hcut2⟩ := hcut
    subst hcut1
    have hcut3 := hcut2.symm
    clear hcut2
    subst hcut3
    have S0 := Hid.mk' True.intro
    go_wp2_with (first
      | (clear S0; refine wpList_buildTo rfl 24 _ rfl _ rfl (scell ⟨0, ⟨#[]⟩, ⟨#[]⟩, 0, 0, 0, M⟩ (.slice a M.length c)) (by kernel_rfl) ?_; have S1 := Hid.mk' True.intro)
      | (clear S1; go_at_call 8
         refine (copyStep_any _ ⟨0, ⟨#[]⟩, ⟨#[]⟩, 0, 0, 0, M⟩ (.slice a M.length c) HRM.out (by show M.length ≤ _; omega)).mono ?_
         rintro e w2 ⟨v2, rfl, h2⟩
         obtain ⟨pS, cS, hv2, _, _⟩ := id (Row.of_own h2.out.1)
         dsimp only at hv2
         subst hv2
         have H2 : Hid (w2.ownsRow w.heap.size 3 1 (.slice pS M.length cS) M.length (ints M) ∧ Keeps (fun _ => False) w w2) := h2.out
         clear h2
         have hfd := field6 w2 ⟨0, ⟨#[]⟩, ⟨#[]⟩, 0, 0, 0, M⟩ pS M.length cS
         have S2 := Hid.mk' True.intro)
      | (clear S2 hfd; refine wpList_buildTo rfl 24 _ rfl _ rfl (scell (csS M) (.slice pS M.length cS)) (by kernel_rfl) ?_; have S3 := Hid.mk' True.intro)
      | (clear S3; refine wpList_alloc_st rfl rfl ?_; have S4 := Hid.mk' True.intro)
      | (clear S4; refine wpList_store_st rfl _ _ rfl (csS M) _ _ _ (by rfl) (by rfl) ?_
         have HK3 := Hid.mk' (H2.out.2.alloc (.cells (scell (csS M) (.slice pS M.length cS)) 24))
         have HB3 := Hid.mk' (heap_last w2 (.cells (scell (csS M) (.slice pS M.length cS)) 24))
         have HS3 := Hid.mk' (own_grow H2.out.1 ((Keeps.refl (fun _ => False) w2).alloc (.cells (scell (csS M) (.slice pS M.length cS)) 24)))
         have S5 := Hid.mk' True.intro)
      | (clear S5; refine wpList_load_row rfl 24 (.tmp 3) rfl w2.heap.size (by rfl) 24 (scell (csS M) (.slice pS M.length cS)) (0, 0) _ HB3.out Tryz.underlying24 rfl size24 ?_; have S6 := Hid.mk' True.intro)
      | (clear S6; go_at_call 9
         have h9 := print_any _ (HV.out.keep HK3.out) (csS M) _ (Row.of_own HS3.out) HRD.out.ok (wrF_le HRD.out.ok)
         rw [HPR.out] at h9
         refine h9.mono ?_
         clear h9
         rintro e w4 ⟨rfl, hk4⟩
         have HK4 := Hid.mk' (HK3.out.trans hk4)
         have HB4 := Hid.mk' (hk4.at HB3.out id)
         have HS4 := Hid.mk' (own_grow HS3.out hk4)
         clear hk4
         have S7 := Hid.mk' True.intro)
      | (clear S7; go_at_call 15
         refine (parse_two w4 (HV.out.keep HK4.out) mx (HK4.out.cell HMX.out id) HRD.out PR HPR.out).mono ?_
         rintro e w5 ⟨vl, ve, z0, z1, rfl, h5⟩
         have H5 := Hid.mk' h5.out
         clear h5
         have S8 := Hid.mk' True.intro)
      | (clear S8; go_at_call 16
         have h16 := line_any w5 (HV.out.keep (HK4.out.trans H5.out.2.2)) PR
         rw [← HPR.out, data_mkB, HRD.out.e, HRD.out.s, HPR.out] at h16
         refine h16.mono ?_
         clear h16
         rintro e w6 ⟨v8, rfl, h6⟩
         obtain ⟨p8, c8, hv8, _, _⟩ := id (Row.of_own h6.out.1)
         dsimp only [csS] at hv8
         subst hv8
         have H6 : Hid (w6.ownsRow w5.heap.size 3 1 (.slice p8 M.length c8) M.length (ints M) ∧ Keeps (fun _ => False) w5 w6) := h6.out
         clear h6
         have S9 := Hid.mk' True.intro)
      | (clear S9; refine wpList_alloc_st rfl rfl ?_; have S10 := Hid.mk' True.intro)
      | (clear S10; refine wpList_store_st rfl _ _ rfl (csS M) _ _ _ (by rfl) (by rfl) ?_
         have HK8 := Hid.mk' ((Keeps.refl (fun _ => False) w6).alloc (.cells (scell (csS M) (.slice p8 M.length c8)) 24))
         have HB8 := Hid.mk' (heap_last w6 (.cells (scell (csS M) (.slice p8 M.length c8)) 24))
         have S11 := Hid.mk' True.intro))
    clear S11
    have HAX0 : Hid (AX w (w6.alloc (.cells (scell (csS M) (.slice p8 M.length c8)) 24)) w2.heap.size w6.heap.size M vl z0 z1 (.slice p8 M.length c8) (.slice pS M.length cS) M M) := by
      have k5 := HK4.out.trans H5.out.2.2
      have k6 := k5.trans H6.out.2
      have ka := (Keeps.refl (fun _ => False) w6).alloc (.cells (scell (csS M) (.slice p8 M.length c8)) 24)
      have kb := H6.out.2.trans ka
      have i0 := H5.out.1.ins (csS M, z0) (by simp)
      have i1 := H5.out.1.ins (csS M, z1) (by simp)
      have hp := List.pairwise_cons.1 H5.out.1.apart
      exact ⟨k6.trans ka, (H5.out.2.2.trans kb).at HB4.out id, HB8.out, own_grow (own_base H5.out.1.row HK4.out.size) kb, own_grow (own_base i0 HK4.out.size) kb, own_grow (own_base i1 HK4.out.size) kb, own_grow (own_base H6.out.1 k5.size) ka, own_grow HS4.out (H5.out.2.2.trans kb),
        fun g h0 h1 => hp.1 (csS M, z1) (by simp) g h0 h1,
        fun g h0 h8 => by have a := (i0.lt g h0).2; have b := (H6.out.1.lt g h8).1; omega,
        fun g h0 hS => by have a := (i0.lt g h0).1; have b := (HS4.out.lt g hS).2; omega,
        fun g h1 h8 => by have a := (i1.lt g h1).2; have b := (H6.out.1.lt g h8).1; omega,
        fun g h1 hS => by have a := (i1.lt g h1).1; have b := (HS4.out.lt g hS).2; omega,
        fun g h8 hS => by have a := (H6.out.1.lt g h8).1; have b := (HS4.out.lt g hS).2; have c := H5.out.2.2.size; omega, rfl, rfl⟩
    obtain ⟨a5, c5, hv5, _, _⟩ := id (Row.of_own H5.out.2.1)
    subst hv5
    obtain ⟨p0, c0, hz0, _, _⟩ := id (Row.of_own HAX0.out.r0)
    obtain ⟨p1, c1, hz1, _, _⟩ := id (Row.of_own HAX0.out.r1)
    subst hz0 hz1
    obtain ⟨gl, cl, hvl, hcl, hg0, hg7⟩ := two_get HAX0.out.rl
    subst hvl
    have HS8 : Hid ((w6.alloc (.cells (scell (csS M) (.slice p8 M.length c8)) 24)).rangeAt w6.heap.size 0 (scell (csS M) (.slice p8 M.length c8)).toList ∧ (w6.alloc (.cells (scell (csS M) (.slice p8 M.length c8)) 24)).rangeAt w2.heap.size 0 (scell (csS M) (.slice pS M.length cS)).toList ∧ (w6.alloc (.cells (scell (csS M) (.slice p8 M.length c8)) 24)).rangeAt gl 0 (scell (csS M) (.slice p0 M.length c0)).toList ∧ (w6.alloc (.cells (scell (csS M) (.slice p8 M.length c8)) 24)).rangeAt gl 7 (scell (csS M) (.slice p1 M.length c1)).toList) := ⟨rangeAt_block HAX0.out.b8 (scell (csS M) (.slice p8 M.length c8)), rangeAt_block HAX0.out.b3 (scell (csS M) (.slice pS M.length cS)), hg0, hg7⟩
    clear hg0 hg7 H5 H6 HK3 HB3 HS3 HK4 HB4 HS4 HK8 HB8 H2
    generalize w6.alloc (.cells (scell (csS M) (.slice p8 M.length c8)) 24) = W8 at HAX0 HS8 ⊢
    have HKK0 := Hid.mk' (Keeps.drewN (fun _ => False) W8 1)
    refine wp_region_held_drew (S := fun wx => wx.rangeAt w6.heap.size 0 (scell (csS M) (.slice p8 M.length c8)).toList ∧ wx.rangeAt w2.heap.size 0 (scell (csS M) (.slice pS M.length cS)).toList ∧ wx.rangeAt gl 0 (scell (csS M) (.slice p0 M.length c0)).toList ∧ wx.rangeAt gl 7 (scell (csS M) (.slice p1 M.length c1)).toList) (by kernel_rfl) HS8.out (fun hS => ?_)
    refine takeH 0 (some 46) (.string PR) rfl rfl (by kernel_rfl) (by kernel_rfl) (by kernel_rfl) (fun _ _ _ h => h) (Or.inl ⟨by rfl, fun wx _ => by go_simp⟩) hS ?_
    try simp only [Act.put, List.setIfInBounds_toArray, List.set_cons_zero, List.set_cons_succ]
    refine takeH 1 (some 47) (.bool false) rfl rfl (by kernel_rfl) (by kernel_rfl) (by kernel_rfl) (fun _ _ _ h => h) (Or.inl ⟨by rfl, fun wx _ => by go_simp⟩) hS ?_
    try simp only [Act.put, List.setIfInBounds_toArray, List.set_cons_zero, List.set_cons_succ]
    refine takeH 2 (some 48) (.bool false) rfl rfl (by kernel_rfl) (by kernel_rfl) (by kernel_rfl) (fun _ _ _ h => h) (Or.inl ⟨by rfl, fun wx _ => by go_simp⟩) hS ?_
    try simp only [Act.put, List.setIfInBounds_toArray, List.set_cons_zero, List.set_cons_succ]
    refine takeH 3 (some 49) (.int .i64 0) rfl rfl (by kernel_rfl) (by kernel_rfl) (by kernel_rfl) (fun _ _ _ h => h) (Or.inl ⟨by rfl, fun wx _ => by go_simp⟩) hS ?_
    try simp only [Act.put, List.setIfInBounds_toArray, List.set_cons_zero, List.set_cons_succ]
    refine takeH 4 (some 50) (.bool false) rfl rfl (by kernel_rfl) (by kernel_rfl) (by kernel_rfl) (fun _ _ _ h => h) (Or.inl ⟨by rfl, fun wx _ => by go_simp⟩) hS ?_
    try simp only [Act.put, List.setIfInBounds_toArray, List.set_cons_zero, List.set_cons_succ]
    refine takeH 5 (some 51) (.bool false) rfl rfl (by kernel_rfl) (by kernel_rfl) (by kernel_rfl) (fun _ _ _ h => h) (Or.inl ⟨by rfl, fun wx _ => by go_simp⟩) hS ?_
    try simp only [Act.put, List.setIfInBounds_toArray, List.set_cons_zero, List.set_cons_succ]
    refine takeH 6 (some 52) (.bool false) rfl rfl (by kernel_rfl) (by kernel_rfl) (by kernel_rfl) (fun _ _ _ h => h) (Or.inl ⟨by rfl, fun wx _ => by go_simp⟩) hS ?_
    try simp only [Act.put, List.setIfInBounds_toArray, List.set_cons_zero, List.set_cons_succ]
    refine takeH 7 (some 53) (.slice (some ⟨gl, 0, none⟩) 2 cl) rfl rfl (by kernel_rfl) (by kernel_rfl) (by kernel_rfl) (fun _ _ _ h => h) (Or.inl ⟨by rfl, fun wx _ => by go_simp⟩) hS ?_
    try simp only [Act.put, List.setIfInBounds_toArray, List.set_cons_zero, List.set_cons_succ]
    refine takeH 8 (some 54) (.int .i64 2) rfl rfl (by kernel_rfl) (by kernel_rfl) (by kernel_rfl) (fun _ _ _ h => h) (Or.inl ⟨by rfl, fun wx _ => by go_simp⟩) hS ?_
    try simp only [Act.put, List.setIfInBounds_toArray, List.set_cons_zero, List.set_cons_succ]
    refine takeH 9 (some 55) (.bool false) rfl rfl (by kernel_rfl) (by kernel_rfl) (by kernel_rfl) (fun _ _ _ h => h) (Or.inl ⟨by rfl, fun wx _ => by go_simp⟩) hS ?_
    try simp only [Act.put, List.setIfInBounds_toArray, List.set_cons_zero, List.set_cons_succ]
    refine takeH 10 (some 56) (.bool false) rfl rfl (by kernel_rfl) (by kernel_rfl) (by kernel_rfl) (fun _ _ _ h => h) (Or.inl ⟨by rfl, fun wx _ => by go_simp⟩) hS ?_
    try simp only [Act.put, List.setIfInBounds_toArray, List.set_cons_zero, List.set_cons_succ]
    refine takeH 11 (some 57) (.bool false) rfl rfl (by kernel_rfl) (by kernel_rfl) (by kernel_rfl) (fun _ _ _ h => h) (Or.inl ⟨by rfl, fun wx _ => by go_simp⟩) hS ?_
    try simp only [Act.put, List.setIfInBounds_toArray, List.set_cons_zero, List.set_cons_succ]
    refine takeH 12 (some 58) (.slice a5 2 c5) rfl rfl (by kernel_rfl) (by kernel_rfl) (by kernel_rfl) (fun _ _ _ h => h) (Or.inl ⟨by rfl, fun wx _ => by go_simp⟩) hS ?_
    try simp only [Act.put, List.setIfInBounds_toArray, List.set_cons_zero, List.set_cons_succ]
    refine takeH 13 (some 59) (.int .i64 2) rfl rfl (by kernel_rfl) (by kernel_rfl) (by kernel_rfl) (fun _ _ _ h => h) (Or.inl ⟨by rfl, fun wx _ => by go_simp⟩) hS ?_
    try simp only [Act.put, List.setIfInBounds_toArray, List.set_cons_zero, List.set_cons_succ]
    refine takeH 14 (some 60) (.bool false) rfl rfl (by kernel_rfl) (by kernel_rfl) (by kernel_rfl) (fun _ _ _ h => h) (Or.inl ⟨by rfl, fun wx _ => by go_simp⟩) hS ?_
    try simp only [Act.put, List.setIfInBounds_toArray, List.set_cons_zero, List.set_cons_succ]
    refine takeH 15 (some 61) (.bool false) rfl rfl (by kernel_rfl) (by kernel_rfl) (by kernel_rfl) (fun _ _ _ h => h) (Or.inl ⟨by rfl, fun wx _ => by go_simp⟩) hS ?_
    try simp only [Act.put, List.setIfInBounds_toArray, List.set_cons_zero, List.set_cons_succ]
    refine takeH 16 (some 62) (.bool false) rfl rfl (by kernel_rfl) (by kernel_rfl) (by kernel_rfl) (fun _ _ _ h => h) (Or.inl ⟨by rfl, fun wx _ => by go_simp⟩) hS ?_
    try simp only [Act.put, List.setIfInBounds_toArray, List.set_cons_zero, List.set_cons_succ]
    refine takeH 17 (some 63) (.agg (scell (csS M) (.slice p8 M.length c8))) rfl rfl (by kernel_rfl) (by kernel_rfl) (by kernel_rfl) (fun _ _ _ h => h) (yieldsIf_load_mid (by rfl) 24 (.tmp 8) rfl w6.heap.size 0 (by rfl) (scell (csS M) (.slice p8 M.length c8)).toList _ (fun _ h => h.1) Tryz.underlying24 rfl size24) hS ?_
    try simp only [Act.put, List.setIfInBounds_toArray, List.set_cons_zero, List.set_cons_succ]
    refine takeH 18 (some 64) (.agg (scell (csS M) (.slice pS M.length cS))) rfl rfl (by kernel_rfl) (by kernel_rfl) (by kernel_rfl) (fun _ _ _ h => h) (yieldsIf_load_mid (by rfl) 24 (.tmp 3) rfl w2.heap.size 0 (by rfl) (scell (csS M) (.slice pS M.length cS)).toList _ (fun _ h => h.2.1) Tryz.underlying24 rfl size24) hS ?_
    try simp only [Act.put, List.setIfInBounds_toArray, List.set_cons_zero, List.set_cons_succ]
    refine wpAnyH_ready (rs := [19]) (by kernel_rfl) (by simp) (AllReadyH.cons rfl (fun K hK => ?_) AllReadyH.nil)
    go_simp
    go_at_call 10
    refine (lsame_any _ (csS M) (csS M) _ _ ((Row.of_own HAX0.out.r8).keep HKK0.out) ((Row.of_own HAX0.out.rS).keep HKK0.out) (by show M.length ≤ _; omega)).mono ?_
    rintro e w100 ⟨rfl, hk8⟩
    rw [smF_refl]
    have HKK1 := Hid.mk' (HKK0.out.trans hk8)
    refine hK.out _ _ (⟨fun j u hj => hk8.cell (hS.1 j u hj) id, fun j u hj => hk8.cell (hS.2.1 j u hj) id, fun j u hj => hk8.cell (hS.2.2.1 j u hj) id, fun j u hj => hk8.cell (hS.2.2.2 j u hj) id⟩) (fun hS => ?_)
    clear hK
    try simp only [Act.put, List.setIfInBounds_toArray, List.set_cons_zero, List.set_cons_succ]
    clear hk8
    refine takeH 20 (some 66) (.bool false) rfl rfl (by kernel_rfl) (by kernel_rfl) (by kernel_rfl) (fun _ _ _ h => h) (Or.inl ⟨by rfl, fun wx _ => by go_simp⟩) hS ?_
    try simp only [Act.put, List.setIfInBounds_toArray, List.set_cons_zero, List.set_cons_succ]
    refine takeH 21 (some 67) (.bool false) rfl rfl (by kernel_rfl) (by kernel_rfl) (by kernel_rfl) (fun _ _ _ h => h) (Or.inl ⟨by rfl, fun wx _ => by go_simp⟩) hS ?_
    try simp only [Act.put, List.setIfInBounds_toArray, List.set_cons_zero, List.set_cons_succ]
    refine takeH 22 (some 68) (.bool false) rfl rfl (by kernel_rfl) (by kernel_rfl) (by kernel_rfl) (fun _ _ _ h => h) (Or.inl ⟨by rfl, fun wx _ => by go_simp⟩) hS ?_
    try simp only [Act.put, List.setIfInBounds_toArray, List.set_cons_zero, List.set_cons_succ]
    refine takeH 23 (some 69) (.slice (some ⟨gl, 0, none⟩) 2 cl) rfl rfl (by kernel_rfl) (by kernel_rfl) (by kernel_rfl) (fun _ _ _ h => h) (Or.inl ⟨by rfl, fun wx _ => by go_simp⟩) hS ?_
    try simp only [Act.put, List.setIfInBounds_toArray, List.set_cons_zero, List.set_cons_succ]
    refine takeH 24 (some 70) (.pointer (some ⟨gl, 0, none⟩)) rfl rfl (by kernel_rfl) (by kernel_rfl) (by kernel_rfl) (fun _ _ _ h => h) (Or.inl ⟨by rfl, fun wx _ => by go_simp⟩) hS ?_
    try simp only [Act.put, List.setIfInBounds_toArray, List.set_cons_zero, List.set_cons_succ]
    refine takeH 25 (some 71) (.agg (scell (csS M) (.slice p0 M.length c0))) rfl rfl (by kernel_rfl) (by kernel_rfl) (by kernel_rfl) (fun _ _ _ h => h) (yieldsIf_load_mid (by rfl) 24 (.tmp 70) rfl gl 0 (by rfl) (scell (csS M) (.slice p0 M.length c0)).toList _ (fun _ h => h.2.2.1) Tryz.underlying24 rfl size24) hS ?_
    try simp only [Act.put, List.setIfInBounds_toArray, List.set_cons_zero, List.set_cons_succ]
    refine takeH 26 (some 72) (.agg (scell (csS M) (.slice pS M.length cS))) rfl rfl (by kernel_rfl) (by kernel_rfl) (by kernel_rfl) (fun _ _ _ h => h) (yieldsIf_load_mid (by rfl) 24 (.tmp 3) rfl w2.heap.size 0 (by rfl) (scell (csS M) (.slice pS M.length cS)).toList _ (fun _ h => h.2.1) Tryz.underlying24 rfl size24) hS ?_
    try simp only [Act.put, List.setIfInBounds_toArray, List.set_cons_zero, List.set_cons_succ]
    refine wpAnyH_ready (rs := [27]) (by kernel_rfl) (by simp) (AllReadyH.cons rfl (fun K hK => ?_) AllReadyH.nil)
    go_simp
    go_at_call 10
    refine (lsame_any _ (csS M) (csS M) _ _ ((Row.of_own HAX0.out.r0).keep HKK1.out) ((Row.of_own HAX0.out.rS).keep HKK1.out) (by show M.length ≤ _; omega)).mono ?_
    rintro e w101 ⟨rfl, hk8⟩
    rw [smF_refl]
    have HKK2 := Hid.mk' (HKK1.out.trans hk8)
    refine hK.out _ _ (⟨fun j u hj => hk8.cell (hS.1 j u hj) id, fun j u hj => hk8.cell (hS.2.1 j u hj) id, fun j u hj => hk8.cell (hS.2.2.1 j u hj) id, fun j u hj => hk8.cell (hS.2.2.2 j u hj) id⟩) (fun hS => ?_)
    clear hK
    try simp only [Act.put, List.setIfInBounds_toArray, List.set_cons_zero, List.set_cons_succ]
    clear hk8
    refine takeH 28 (some 74) (.bool false) rfl rfl (by kernel_rfl) (by kernel_rfl) (by kernel_rfl) (fun _ _ _ h => h) (Or.inl ⟨by rfl, fun wx _ => by go_simp⟩) hS ?_
    try simp only [Act.put, List.setIfInBounds_toArray, List.set_cons_zero, List.set_cons_succ]
    refine takeH 29 (some 75) (.bool false) rfl rfl (by kernel_rfl) (by kernel_rfl) (by kernel_rfl) (fun _ _ _ h => h) (Or.inl ⟨by rfl, fun wx _ => by go_simp⟩) hS ?_
    try simp only [Act.put, List.setIfInBounds_toArray, List.set_cons_zero, List.set_cons_succ]
    refine takeH 30 (some 76) (.bool false) rfl rfl (by kernel_rfl) (by kernel_rfl) (by kernel_rfl) (fun _ _ _ h => h) (Or.inl ⟨by rfl, fun wx _ => by go_simp⟩) hS ?_
    try simp only [Act.put, List.setIfInBounds_toArray, List.set_cons_zero, List.set_cons_succ]
    refine takeH 31 (some 77) (.slice (some ⟨gl, 0, none⟩) 2 cl) rfl rfl (by kernel_rfl) (by kernel_rfl) (by kernel_rfl) (fun _ _ _ h => h) (Or.inl ⟨by rfl, fun wx _ => by go_simp⟩) hS ?_
    try simp only [Act.put, List.setIfInBounds_toArray, List.set_cons_zero, List.set_cons_succ]
    refine takeH 32 (some 78) (.pointer (some ⟨gl, 7, none⟩)) rfl rfl (by kernel_rfl) (by kernel_rfl) (by kernel_rfl) (fun _ _ _ h => h) (Or.inl ⟨by rfl, fun wx _ => by go_simp⟩) hS ?_
    try simp only [Act.put, List.setIfInBounds_toArray, List.set_cons_zero, List.set_cons_succ]
    refine takeH 33 (some 79) (.agg (scell (csS M) (.slice p1 M.length c1))) rfl rfl (by kernel_rfl) (by kernel_rfl) (by kernel_rfl) (fun _ _ _ h => h) (yieldsIf_load_mid (by rfl) 24 (.tmp 78) rfl gl 7 (by rfl) (scell (csS M) (.slice p1 M.length c1)).toList _ (fun _ h => h.2.2.2) Tryz.underlying24 rfl size24) hS ?_
    try simp only [Act.put, List.setIfInBounds_toArray, List.set_cons_zero, List.set_cons_succ]
    refine takeH 34 (some 80) (.agg (scell (csS M) (.slice pS M.length cS))) rfl rfl (by kernel_rfl) (by kernel_rfl) (by kernel_rfl) (fun _ _ _ h => h) (yieldsIf_load_mid (by rfl) 24 (.tmp 3) rfl w2.heap.size 0 (by rfl) (scell (csS M) (.slice pS M.length cS)).toList _ (fun _ h => h.2.1) Tryz.underlying24 rfl size24) hS ?_
    try simp only [Act.put, List.setIfInBounds_toArray, List.set_cons_zero, List.set_cons_succ]
    refine wpAnyH_ready (rs := [35]) (by kernel_rfl) (by simp) (AllReadyH.cons rfl (fun K hK => ?_) AllReadyH.nil)
    go_simp
    go_at_call 10
    refine (lsame_any _ (csS M) (csS M) _ _ ((Row.of_own HAX0.out.r1).keep HKK2.out) ((Row.of_own HAX0.out.rS).keep HKK2.out) (by show M.length ≤ _; omega)).mono ?_
    rintro e w102 ⟨rfl, hk8⟩
    rw [smF_refl]
    have HKK3 := Hid.mk' (HKK2.out.trans hk8)
    refine hK.out _ _ (⟨fun j u hj => hk8.cell (hS.1 j u hj) id, fun j u hj => hk8.cell (hS.2.1 j u hj) id, fun j u hj => hk8.cell (hS.2.2.1 j u hj) id, fun j u hj => hk8.cell (hS.2.2.2 j u hj) id⟩) (fun hS => ?_)
    clear hK
    try simp only [Act.put, List.setIfInBounds_toArray, List.set_cons_zero, List.set_cons_succ]
    clear hk8
    refine takeH 36 (some 82) (.bool false) rfl rfl (by kernel_rfl) (by kernel_rfl) (by kernel_rfl) (fun _ _ _ h => h) (Or.inl ⟨by rfl, fun wx _ => by go_simp⟩) hS ?_
    try simp only [Act.put, List.setIfInBounds_toArray, List.set_cons_zero, List.set_cons_succ]
    refine takeH 37 (some 83) (.bool false) rfl rfl (by kernel_rfl) (by kernel_rfl) (by kernel_rfl) (fun _ _ _ h => h) (Or.inl ⟨by rfl, fun wx _ => by go_simp⟩) hS ?_
    try simp only [Act.put, List.setIfInBounds_toArray, List.set_cons_zero, List.set_cons_succ]
    refine wpAnyH_done (by kernel_rfl) ?_ _
    clear hS
    have HAX := Hid.mk' (HAX0.out.keep HKK3.out)
    clear HAX0 HKK0 HKK1 HKK2 HKK3 HS8
    go_wp2
    go_loopw [10] (fun i wr => ∃ k : Nat, k ≤ M.length ∧ i = .int .i64 k ∧ ∃ x0, Hid (AX w wr w2.heap.size w6.heap.size M (.slice (some ⟨gl, 0, none⟩) 2 cl) (.slice p0 M.length c0) (.slice p1 M.length c1) (.slice p8 M.length c8) (.slice pS M.length cS) x0 M ∧ UpF (fun j => -(j : Int) - 1) x0 k)) (fun i _ => M.length - (intOf i).toNat)
    case atStart => exact ⟨0, Nat.zero_le _, rfl, M, ⟨HAX.out, fun i hi => absurd hi (by omega)⟩⟩
    case round =>
      obtain ⟨k, hk, rfl, x0, HD⟩ := hrel
      clear HAX
      by_cases h1 : k < M.length
      · have h1' : (k : Int) < (M.length : Int) := by omega
        obtain ⟨g, cg, x, e, hcg, hc, hf, hset⟩ := HD.out.1.write0 h1
        injection e with e1 e2 e3
        subst e1
        have c6 : wr.cell? ⟨gl, 6, none⟩ = some (.slice (some ⟨g, 0, none⟩) M.length c0) := by
          obtain ⟨gl', cl', e, _, h0, _⟩ := two_get HD.out.1.rl
          injection e with e _ _
          injection e with e
          injection e with e _ _
          subst e
          have := h0 6 _ rfl
          exact this
        have HSET := Hid.mk' (hset (-(k : Int) - 1))
        have hx0 : Hid (k < x0.length) := by show _ < _; rw [HD.out.1.l0]; exact h1
        clear hset e2 e3
        go_wp2
        go_roundw
        case rel => exact ⟨k + 1, by omega, by go_num, x0.set k (-(k : Int) - 1), ⟨HSET.out, HD.out.2.next hx0.out _ rfl⟩⟩
        case measure => simp [intOf]; omega
      · have h1' : ¬ (k : Int) < (M.length : Int) := by omega
        have HUP : Hid (UpF (fun j => -(j : Int) - 1) x0 M.length) := by
          have h := HD.out.2
          rw [show k = M.length by omega] at h
          exact h
        have hx0L : Hid (x0.length = M.length) := HD.out.1.l0
        obtain ⟨gl', cl', e, _, hg0, hg7⟩ := two_get HD.out.1.rl
        injection e with e _ ec
        injection e with e
        injection e with e _ _
        subst e ec
        have c6 : wr.cell? ⟨gl, 6, none⟩ = some (.slice p0 M.length c0) := hg0 6 _ rfl
        clear hg0 hg7
        have S0 := Hid.mk' True.intro
        go_wp2_with (first
          | (clear S0; at_builtin; go_must (refine wpList_app3 rfl _ _ rfl w.heap.size wr (.slice p0 M.length c0) x0 [70, 71, 72] rfl _ (by rfl) (by rfl) HD.out.1.r0 (by rfl) (by have h : x0.length = M.length := hx0L.out; omega) HD.out.1.k.size ?_)
             intro g cap W9 hown hk9 hw9 hst9
             have HAY0 := Hid.mk' (HD.out.1.app hown hk9 hw9 hst9)
             rw [show x0.length = M.length from hx0L.out]
             clear hown hk9 hw9 hst9
             have S1 := Hid.mk' True.intro))
        clear S1 c6 HD
        have HS9 : Hid (W9.rangeAt w6.heap.size 0 (scell (csS M) (.slice p8 M.length c8)).toList ∧ W9.rangeAt w2.heap.size 0 (scell (csS M) (.slice pS M.length cS)).toList ∧ W9.rangeAt gl 0 (scell (csS M) (.slice p0 M.length c0)).toList ∧ W9.rangeAt gl 7 (scell (csS M) (.slice p1 M.length c1)).toList) := by
          obtain ⟨gl', cl', e, _, hg0, hg7⟩ := two_get HAY0.out.rl
          injection e with e _ _
          injection e with e
          injection e with e _ _
          subst e
          exact ⟨rangeAt_block HAY0.out.b8 (scell (csS M) (.slice p8 M.length c8)), rangeAt_block HAY0.out.b3 (scell (csS M) (.slice pS M.length cS)), hg0, hg7⟩
        have HKK0 := Hid.mk' (Keeps.drewN (fun _ => False) W9 1)
        refine wp_region_held_drew (S := fun wx => wx.rangeAt w6.heap.size 0 (scell (csS M) (.slice p8 M.length c8)).toList ∧ wx.rangeAt w2.heap.size 0 (scell (csS M) (.slice pS M.length cS)).toList ∧ wx.rangeAt gl 0 (scell (csS M) (.slice p0 M.length c0)).toList ∧ wx.rangeAt gl 7 (scell (csS M) (.slice p1 M.length c1)).toList) (by kernel_rfl) HS9.out (fun hS => ?_)
        refine takeH 0 (some 105) (.slice (some ⟨gl, 0, none⟩) 2 cl) rfl rfl (by kernel_rfl) (by kernel_rfl) (by kernel_rfl) (fun _ _ _ h => h) (Or.inl ⟨by rfl, fun wx _ => by go_simp⟩) hS ?_
        try simp only [Act.put, List.setIfInBounds_toArray, List.set_cons_zero, List.set_cons_succ]
        refine takeH 1 (some 106) (.pointer (some ⟨gl, 7, none⟩)) rfl rfl (by kernel_rfl) (by kernel_rfl) (by kernel_rfl) (fun _ _ _ h => h) (Or.inl ⟨by rfl, fun wx _ => by go_simp⟩) hS ?_
        try simp only [Act.put, List.setIfInBounds_toArray, List.set_cons_zero, List.set_cons_succ]
        refine takeH 2 (some 107) (.agg (scell (csS M) (.slice p1 M.length c1))) rfl rfl (by kernel_rfl) (by kernel_rfl) (by kernel_rfl) (fun _ _ _ h => h) (yieldsIf_load_mid (by rfl) 24 (.tmp 106) rfl gl 7 (by rfl) (scell (csS M) (.slice p1 M.length c1)).toList _ (fun _ h => h.2.2.2) Tryz.underlying24 rfl size24) hS ?_
        try simp only [Act.put, List.setIfInBounds_toArray, List.set_cons_zero, List.set_cons_succ]
        refine takeH 3 (some 108) (.agg (scell (csS M) (.slice pS M.length cS))) rfl rfl (by kernel_rfl) (by kernel_rfl) (by kernel_rfl) (fun _ _ _ h => h) (yieldsIf_load_mid (by rfl) 24 (.tmp 3) rfl w2.heap.size 0 (by rfl) (scell (csS M) (.slice pS M.length cS)).toList _ (fun _ h => h.2.1) Tryz.underlying24 rfl size24) hS ?_
        try simp only [Act.put, List.setIfInBounds_toArray, List.set_cons_zero, List.set_cons_succ]
        refine wpAnyH_ready (rs := [4]) (by kernel_rfl) (by simp) (AllReadyH.cons rfl (fun K hK => ?_) AllReadyH.nil)
        go_simp
        go_at_call 10
        refine (lsame_any _ (csS M) (csS M) _ _ ((Row.of_own HAY0.out.r1).keep HKK0.out) ((Row.of_own HAY0.out.rS).keep HKK0.out) (by show M.length ≤ _; omega)).mono ?_
        rintro e w100 ⟨rfl, hk8⟩
        rw [smF_refl]
        have HKK1 := Hid.mk' (HKK0.out.trans hk8)
        refine hK.out _ _ (⟨fun j u hj => hk8.cell (hS.1 j u hj) id, fun j u hj => hk8.cell (hS.2.1 j u hj) id, fun j u hj => hk8.cell (hS.2.2.1 j u hj) id, fun j u hj => hk8.cell (hS.2.2.2 j u hj) id⟩) (fun hS => ?_)
        clear hK
        try simp only [Act.put, List.setIfInBounds_toArray, List.set_cons_zero, List.set_cons_succ]
        clear hk8
        refine takeH 5 (some 110) (.bool false) rfl rfl (by kernel_rfl) (by kernel_rfl) (by kernel_rfl) (fun _ _ _ h => h) (Or.inl ⟨by rfl, fun wx _ => by go_simp⟩) hS ?_
        try simp only [Act.put, List.setIfInBounds_toArray, List.set_cons_zero, List.set_cons_succ]
        refine takeH 6 (some 111) (.bool false) rfl rfl (by kernel_rfl) (by kernel_rfl) (by kernel_rfl) (fun _ _ _ h => h) (Or.inl ⟨by rfl, fun wx _ => by go_simp⟩) hS ?_
        try simp only [Act.put, List.setIfInBounds_toArray, List.set_cons_zero, List.set_cons_succ]
        refine takeH 7 (some 112) (.agg (scell (csS M) (.slice p8 M.length c8))) rfl rfl (by kernel_rfl) (by kernel_rfl) (by kernel_rfl) (fun _ _ _ h => h) (yieldsIf_load_mid (by rfl) 24 (.tmp 8) rfl w6.heap.size 0 (by rfl) (scell (csS M) (.slice p8 M.length c8)).toList _ (fun _ h => h.1) Tryz.underlying24 rfl size24) hS ?_
        try simp only [Act.put, List.setIfInBounds_toArray, List.set_cons_zero, List.set_cons_succ]
        refine takeH 8 (some 113) (.agg (scell (csS M) (.slice pS M.length cS))) rfl rfl (by kernel_rfl) (by kernel_rfl) (by kernel_rfl) (fun _ _ _ h => h) (yieldsIf_load_mid (by rfl) 24 (.tmp 3) rfl w2.heap.size 0 (by rfl) (scell (csS M) (.slice pS M.length cS)).toList _ (fun _ h => h.2.1) Tryz.underlying24 rfl size24) hS ?_
        try simp only [Act.put, List.setIfInBounds_toArray, List.set_cons_zero, List.set_cons_succ]
        refine wpAnyH_ready (rs := [9]) (by kernel_rfl) (by simp) (AllReadyH.cons rfl (fun K hK => ?_) AllReadyH.nil)
        go_simp
        go_at_call 10
        refine (lsame_any _ (csS M) (csS M) _ _ ((Row.of_own HAY0.out.r8).keep HKK1.out) ((Row.of_own HAY0.out.rS).keep HKK1.out) (by show M.length ≤ _; omega)).mono ?_
        rintro e w101 ⟨rfl, hk8⟩
        rw [smF_refl]
        have HKK2 := Hid.mk' (HKK1.out.trans hk8)
        refine hK.out _ _ (⟨fun j u hj => hk8.cell (hS.1 j u hj) id, fun j u hj => hk8.cell (hS.2.1 j u hj) id, fun j u hj => hk8.cell (hS.2.2.1 j u hj) id, fun j u hj => hk8.cell (hS.2.2.2 j u hj) id⟩) (fun hS => ?_)
        clear hK
        try simp only [Act.put, List.setIfInBounds_toArray, List.set_cons_zero, List.set_cons_succ]
        clear hk8
        refine takeH 10 (some 115) (.bool false) rfl rfl (by kernel_rfl) (by kernel_rfl) (by kernel_rfl) (fun _ _ _ h => h) (Or.inl ⟨by rfl, fun wx _ => by go_simp⟩) hS ?_
        try simp only [Act.put, List.setIfInBounds_toArray, List.set_cons_zero, List.set_cons_succ]
        refine takeH 11 (some 116) (.bool false) rfl rfl (by kernel_rfl) (by kernel_rfl) (by kernel_rfl) (fun _ _ _ h => h) (Or.inl ⟨by rfl, fun wx _ => by go_simp⟩) hS ?_
        try simp only [Act.put, List.setIfInBounds_toArray, List.set_cons_zero, List.set_cons_succ]
        refine wpAnyH_done (by kernel_rfl) ?_ _
        clear hS
        have HAY := Hid.mk' (HAY0.out.keep HKK2.out)
        clear HAY0 HKK0 HKK1 HKK2 HS9
        go_wp2
        go_loopw [12] (fun i wr => ∃ k : Nat, k ≤ M.length ∧ i = .int .i64 k ∧ ∃ x8, Hid (AY w wr w2.heap.size w6.heap.size M (.slice (some ⟨gl, 0, none⟩) 2 cl) (.slice p0 M.length c0) (.slice p1 M.length c1) (.slice p8 M.length c8) (.slice pS M.length cS) (.slice (some ⟨g, 0, none⟩) (M.length + 3) cap) x0 x8 ∧ UpF (fun j => -(j : Int) - 7) x8 k)) (fun i _ => M.length - (intOf i).toNat)
        case atStart => exact ⟨0, Nat.zero_le _, rfl, M, ⟨HAY.out, fun i hi => absurd hi (by omega)⟩⟩
        case round =>
          obtain ⟨k2, hk2, rfl, x8, HE⟩ := hrel
          clear HAY
          by_cases h2 : k2 < M.length
          · have h2' : (k2 : Int) < (M.length : Int) := by omega
            obtain ⟨g8, cg8, x, e, hcg8, hc8, hf8, hset⟩ := HE.out.1.write8 h2
            injection e with e1 e2 e3
            subst e1
            have c86 : wr.cell? ⟨w6.heap.size, 6, none⟩ = some (.slice (some ⟨g8, 0, none⟩) M.length c8) := by
              have h := HE.out.1.b8
              simp only [World.cell?, h]
              rfl
            have HSET := Hid.mk' (hset (-(k2 : Int) - 7))
            have hx8 : Hid (k2 < x8.length) := by show _ < _; rw [HE.out.1.l8]; exact h2
            clear hset e2 e3
            go_wp2
            go_roundw
            case rel => exact ⟨k2 + 1, by omega, by go_num, x8.set k2 (-(k2 : Int) - 7), ⟨HSET.out, HE.out.2.next hx8.out _ rfl⟩⟩
            case measure => simp [intOf]; omega
          · have h2' : ¬ (k2 : Int) < (M.length : Int) := by omega
            have HUP8 : Hid (UpF (fun j => -(j : Int) - 7) x8 M.length) := by
              have h := HE.out.2
              rw [show k2 = M.length by omega] at h
              exact h
            obtain ⟨gl', cl', e, _, hg0, hg7⟩ := two_get HE.out.1.rl
            injection e with e _ ec
            injection e with e
            injection e with e _ _
            subst e ec
            have c13 : wr.cell? ⟨gl, 13, none⟩ = some (.slice p1 M.length c1) := hg7 6 _ rfl
            clear hg0 hg7
            have S0 := Hid.mk' True.intro
            go_wp2_with (first
              | (clear S0; at_builtin; go_must (refine wpList_app3 rfl _ _ rfl w.heap.size wr (.slice p1 M.length c1) M [80, 81, 82] rfl _ (by rfl) (by rfl) HE.out.1.r1 (by rfl) (by omega) HE.out.1.k.size ?_)
                 intro gh caph W11 hown hk11 _ _
                 have HAZ := Hid.mk' (HE.out.1.app hown hk11)
                 clear hown hk11
                 have S1 := Hid.mk' True.intro)
              | (clear S1; go_at_call 15
                 refine (parse_two W11 (HV.out.keep HAZ.out.k) mx (HAZ.out.k.cell HMX.out id) HRD.out PR HPR.out).mono ?_
                 rintro e w12 ⟨vm, vem, y0, y1, rfl, h12⟩
                 have H12 := Hid.mk' h12.out
                 clear h12
                 have S2 := Hid.mk' True.intro)
              | (clear S2; go_at_call 16
                 have h16 := line_any w12 (HV.out.keep (HAZ.out.k.trans H12.out.2.2)) PR
                 rw [← HPR.out, data_mkB, HRD.out.e, HRD.out.s, HPR.out] at h16
                 refine h16.mono ?_
                 clear h16
                 rintro e w13 ⟨v16, rfl, h13⟩
                 obtain ⟨p16, c16, hv16, _, _⟩ := id (Row.of_own h13.out.1)
                 dsimp only [csS] at hv16
                 subst hv16
                 have H13 : Hid (w13.ownsRow w12.heap.size 3 1 (.slice p16 M.length c16) M.length (ints M) ∧ Keeps (fun _ => False) w12 w13) := h13.out
                 clear h13
                 have S3 := Hid.mk' True.intro)
              | (clear S3; refine wpList_alloc_st rfl rfl ?_; have S4 := Hid.mk' True.intro)
              | (clear S4; refine wpList_store_st rfl _ _ rfl (csS M) _ _ _ (by rfl) (by rfl) ?_
                 have HKB := Hid.mk' ((Keeps.refl (fun _ => False) w13).alloc (.cells (scell (csS M) (.slice p16 M.length c16)) 24))
                 have HBB := Hid.mk' (heap_last w13 (.cells (scell (csS M) (.slice p16 M.length c16)) 24))
                 have S5 := Hid.mk' True.intro))
            clear S5 c13 HE
            have HZZ := Hid.mk' (HAZ.out.keep ((H12.out.2.2.trans H13.out.2).trans HKB.out))
            have HPM : Hid ((w13.alloc (.cells (scell (csS M) (.slice p16 M.length c16)) 24)).ownsRow W11.heap.size 24 7 vm 2 (pcells [(csS M, y0), (csS M, y1)]) ∧ (w13.alloc (.cells (scell (csS M) (.slice p16 M.length c16)) 24)).ownsRow W11.heap.size 3 1 y0 M.length (ints M) ∧ (w13.alloc (.cells (scell (csS M) (.slice p16 M.length c16)) 24)).ownsRow W11.heap.size 3 1 y1 M.length (ints M) ∧ (w13.alloc (.cells (scell (csS M) (.slice p16 M.length c16)) 24)).ownsRow w12.heap.size 3 1 (.slice p16 M.length c16) M.length (ints M)) :=
              ⟨own_grow H12.out.1.row (H13.out.2.trans HKB.out), own_grow (H12.out.1.ins (csS M, y0) (by simp)) (H13.out.2.trans HKB.out), own_grow (H12.out.1.ins (csS M, y1) (by simp)) (H13.out.2.trans HKB.out), own_grow H13.out.1 HKB.out⟩
            obtain ⟨q0, d0, hy0, _, _⟩ := id (Row.of_own HPM.out.2.1)
            obtain ⟨q1, d1, hy1, _, _⟩ := id (Row.of_own HPM.out.2.2.1)
            subst hy0 hy1
            obtain ⟨gm, cm, hvm, hcm, hm0, hm7⟩ := two_get HPM.out.1
            subst hvm
            have HSM : Hid ((w13.alloc (.cells (scell (csS M) (.slice p16 M.length c16)) 24)).rangeAt gm 0 (scell (csS M) (.slice q0 M.length d0)).toList ∧ (w13.alloc (.cells (scell (csS M) (.slice p16 M.length c16)) 24)).rangeAt gm 7 (scell (csS M) (.slice q1 M.length d1)).toList ∧ (w13.alloc (.cells (scell (csS M) (.slice p16 M.length c16)) 24)).rangeAt w13.heap.size 0 (scell (csS M) (.slice p16 M.length c16)).toList ∧ (w13.alloc (.cells (scell (csS M) (.slice p16 M.length c16)) 24)).rangeAt w2.heap.size 0 (scell (csS M) (.slice pS M.length cS)).toList) := ⟨hm0, hm7, rangeAt_block HBB.out (scell (csS M) (.slice p16 M.length c16)), rangeAt_block HZZ.out.b3 (scell (csS M) (.slice pS M.length cS))⟩
            clear hm0 hm7 HAZ H12 H13 HKB HBB
            generalize w13.alloc (.cells (scell (csS M) (.slice p16 M.length c16)) 24) = W14 at HZZ HPM HSM ⊢
            go_loopw [18] (fun i wr => ∃ k : Nat, k ≤ M.length ∧ i = .int .i64 k ∧ Hid (Keeps (fun _ => False) W14 wr)) (fun i _ => M.length - (intOf i).toNat)
            case atStart => exact ⟨0, Nat.zero_le _, rfl, Keeps.refl _ _⟩
            case round =>
              obtain ⟨k3, hk3, rfl, HK⟩ := hrel
              have HZ3 := Hid.mk' (HZZ.out.keep HK.out)
              by_cases h3 : k3 < M.length
              · have h3' : (k3 : Int) < (M.length : Int) := by omega
                have h3b : (k3 : Int) < (M.length : Int) + 3 := by omega
                have hwn := i64_id (x := -(k3 : Int)) (by omega) (by omega)
                have hw1 := i64_id (x := -(k3 : Int) - 1) (by omega) (by omega)
                have hw7 := i64_id (x := -(k3 : Int) - 7) (by omega) (by omega)
                obtain ⟨y, hy⟩ : ∃ y, M[k3]? = some y := ⟨M[k3], by simp [h3]⟩
                have hX0 := HUP.out k3 h3
                have hX8 := HUP8.out k3 h3
                dsimp only at hX0 hX8
                have hxl : k3 < x0.length := (List.getElem?_eq_some_iff.1 hX0).1
                obtain ⟨bg, og, cg, e, _, qg⟩ := row_get HZ3.out.rg (i := k3) (x := -(k3 : Int) - 1) (by omega) (by rw [List.getElem?_append_left hxl]; exact hX0)
                injection e with e _ ec
                injection e with e
                injection e with e1 e2 _
                subst e1 e2 ec
                obtain ⟨bh, oh, ch, e, _, qh⟩ := row_get HZ3.out.rh (i := k3) (x := y) (by omega) (by rw [List.getElem?_append_left h3]; exact hy)
                injection e with e _ ec
                injection e with e
                injection e with e1 e2 _
                subst e1 e2 ec
                obtain ⟨b0, o0, c0', e, _, q0_⟩ := row_get HZ3.out.r0 (i := k3) (by omega) hX0
                injection e with e1 _ e3
                subst e1 e3
                obtain ⟨b8, o8, c8', e, _, q8_⟩ := row_get HZ3.out.r8 (i := k3) (by omega) hX8
                injection e with e1 _ e3
                subst e1 e3
                obtain ⟨ba, oa, ca, e, _, qa⟩ := row_get (HRM.out.keep HZ3.out.k) (i := k3) (by omega) hy
                injection e with e1 _ e3
                subst e1 e3
                have c6 : wr.cell? ⟨gl, 6, none⟩ = some (.slice (some ⟨b0, o0, none⟩) M.length c0) := by
                  obtain ⟨gl', cl', e, _, hg0, _⟩ := two_get HZ3.out.rl
                  injection e with e _ _
                  injection e with e
                  injection e with e _ _
                  subst e
                  exact hg0 6 _ rfl
                have c86 : wr.cell? ⟨w6.heap.size, 6, none⟩ = some (.slice (some ⟨b8, o8, none⟩) M.length c8) := by
                  have h := HZ3.out.b8
                  simp only [World.cell?, h]
                  rfl
                have gy : (y != y) = false := by simp
                have g1 : (-(k3 : Int) - 1 != -(k3 : Int) - 1) = false := by simp
                have g7 : (-(k3 : Int) - 7 != -(k3 : Int) - 7) = false := by simp
                rw [Nat.zero_add] at qg qh
                clear hX0 hX8 hy hxl
                go_wp2
                go_quiet (fail)
                go_wp2
                go_roundw
                case rel => exact ⟨k3 + 1, by omega, by go_num, HK.out.trans (Keeps.drewN _ _ _)⟩
                case measure => simp [intOf]; omega
              · have h3' : ¬ (k3 : Int) < (M.length : Int) := by omega
                have HS3 : Hid (wr.rangeAt gm 0 (scell (csS M) (.slice q0 M.length d0)).toList ∧ wr.rangeAt gm 7 (scell (csS M) (.slice q1 M.length d1)).toList ∧ wr.rangeAt w13.heap.size 0 (scell (csS M) (.slice p16 M.length c16)).toList ∧ wr.rangeAt w2.heap.size 0 (scell (csS M) (.slice pS M.length cS)).toList) := ⟨fun j u hj => HK.out.cell (HSM.out.1 j u hj) id, fun j u hj => HK.out.cell (HSM.out.2.1 j u hj) id, fun j u hj => HK.out.cell (HSM.out.2.2.1 j u hj) id, fun j u hj => HK.out.cell (HSM.out.2.2.2 j u hj) id⟩
                have HKK0 := Hid.mk' (HK.out.trans (Keeps.drewN (fun _ => False) wr 1))
                go_upto_region 29 with (fail)
                refine wp_region_held_drew (S := fun wx => wx.rangeAt gm 0 (scell (csS M) (.slice q0 M.length d0)).toList ∧ wx.rangeAt gm 7 (scell (csS M) (.slice q1 M.length d1)).toList ∧ wx.rangeAt w13.heap.size 0 (scell (csS M) (.slice p16 M.length c16)).toList ∧ wx.rangeAt w2.heap.size 0 (scell (csS M) (.slice pS M.length cS)).toList) (by kernel_rfl) HS3.out (fun hS => ?_)
                refine takeH 0 (some 195) (.slice (some ⟨gm, 0, none⟩) 2 cm) rfl rfl (by kernel_rfl) (by kernel_rfl) (by kernel_rfl) (fun _ _ _ h => h) (Or.inl ⟨by rfl, fun wx _ => by go_simp⟩) hS ?_
                try simp only [Act.put, List.setIfInBounds_toArray, List.set_cons_zero, List.set_cons_succ]
                refine takeH 1 (some 196) (.int .i64 2) rfl rfl (by kernel_rfl) (by kernel_rfl) (by kernel_rfl) (fun _ _ _ h => h) (Or.inl ⟨by rfl, fun wx _ => by go_simp⟩) hS ?_
                try simp only [Act.put, List.setIfInBounds_toArray, List.set_cons_zero, List.set_cons_succ]
                refine takeH 2 (some 197) (.bool true) rfl rfl (by kernel_rfl) (by kernel_rfl) (by kernel_rfl) (fun _ _ _ h => h) (Or.inl ⟨by rfl, fun wx _ => by go_simp⟩) hS ?_
                try simp only [Act.put, List.setIfInBounds_toArray, List.set_cons_zero, List.set_cons_succ]
                refine takeH 3 (some 198) (.bool true) rfl rfl (by kernel_rfl) (by kernel_rfl) (by kernel_rfl) (fun _ _ _ h => h) (Or.inl ⟨by rfl, fun wx _ => by go_simp⟩) hS ?_
                try simp only [Act.put, List.setIfInBounds_toArray, List.set_cons_zero, List.set_cons_succ]
                refine takeH 4 (some 199) (.slice (some ⟨gm, 0, none⟩) 2 cm) rfl rfl (by kernel_rfl) (by kernel_rfl) (by kernel_rfl) (fun _ _ _ h => h) (Or.inl ⟨by rfl, fun wx _ => by go_simp⟩) hS ?_
                try simp only [Act.put, List.setIfInBounds_toArray, List.set_cons_zero, List.set_cons_succ]
                refine takeH 5 (some 200) (.pointer (some ⟨gm, 0, none⟩)) rfl rfl (by kernel_rfl) (by kernel_rfl) (by kernel_rfl) (fun _ _ _ h => h) (Or.inl ⟨by rfl, fun wx _ => by go_simp⟩) hS ?_
                try simp only [Act.put, List.setIfInBounds_toArray, List.set_cons_zero, List.set_cons_succ]
                refine takeH 6 (some 201) (.agg (scell (csS M) (.slice q0 M.length d0))) rfl rfl (by kernel_rfl) (by kernel_rfl) (by kernel_rfl) (fun _ _ _ h => h) (yieldsIf_load_mid (by rfl) 24 (.tmp 200) rfl gm 0 (by rfl) (scell (csS M) (.slice q0 M.length d0)).toList _ (fun _ h => h.1) Tryz.underlying24 rfl size24) hS ?_
                try simp only [Act.put, List.setIfInBounds_toArray, List.set_cons_zero, List.set_cons_succ]
                refine takeH 7 (some 202) (.agg (scell (csS M) (.slice pS M.length cS))) rfl rfl (by kernel_rfl) (by kernel_rfl) (by kernel_rfl) (fun _ _ _ h => h) (yieldsIf_load_mid (by rfl) 24 (.tmp 3) rfl w2.heap.size 0 (by rfl) (scell (csS M) (.slice pS M.length cS)).toList _ (fun _ h => h.2.2.2) Tryz.underlying24 rfl size24) hS ?_
                try simp only [Act.put, List.setIfInBounds_toArray, List.set_cons_zero, List.set_cons_succ]
                refine wpAnyH_ready (rs := [8]) (by kernel_rfl) (by simp) (AllReadyH.cons rfl (fun K hK => ?_) AllReadyH.nil)
                go_simp
                go_at_call 10
                refine (lsame_any _ (csS M) (csS M) _ _ ((Row.of_own HPM.out.2.1).keep HKK0.out) ((Row.of_own HZZ.out.rS).keep HKK0.out) (by show M.length ≤ _; omega)).mono ?_
                rintro e w100 ⟨rfl, hk8⟩
                rw [smF_refl]
                have HKK1 := Hid.mk' (HKK0.out.trans hk8)
                refine hK.out _ _ (⟨fun j u hj => hk8.cell (hS.1 j u hj) id, fun j u hj => hk8.cell (hS.2.1 j u hj) id, fun j u hj => hk8.cell (hS.2.2.1 j u hj) id, fun j u hj => hk8.cell (hS.2.2.2 j u hj) id⟩) (fun hS => ?_)
                clear hK
                try simp only [Act.put, List.setIfInBounds_toArray, List.set_cons_zero, List.set_cons_succ]
                clear hk8
                refine takeH 9 (some 204) (.bool true) rfl rfl (by kernel_rfl) (by kernel_rfl) (by kernel_rfl) (fun _ _ _ h => h) (Or.inl ⟨by rfl, fun wx _ => by go_simp⟩) hS ?_
                try simp only [Act.put, List.setIfInBounds_toArray, List.set_cons_zero, List.set_cons_succ]
                refine takeH 10 (some 205) (.bool true) rfl rfl (by kernel_rfl) (by kernel_rfl) (by kernel_rfl) (fun _ _ _ h => h) (Or.inl ⟨by rfl, fun wx _ => by go_simp⟩) hS ?_
                try simp only [Act.put, List.setIfInBounds_toArray, List.set_cons_zero, List.set_cons_succ]
                refine takeH 11 (some 206) (.slice (some ⟨gm, 0, none⟩) 2 cm) rfl rfl (by kernel_rfl) (by kernel_rfl) (by kernel_rfl) (fun _ _ _ h => h) (Or.inl ⟨by rfl, fun wx _ => by go_simp⟩) hS ?_
                try simp only [Act.put, List.setIfInBounds_toArray, List.set_cons_zero, List.set_cons_succ]
                refine takeH 12 (some 207) (.pointer (some ⟨gm, 7, none⟩)) rfl rfl (by kernel_rfl) (by kernel_rfl) (by kernel_rfl) (fun _ _ _ h => h) (Or.inl ⟨by rfl, fun wx _ => by go_simp⟩) hS ?_
                try simp only [Act.put, List.setIfInBounds_toArray, List.set_cons_zero, List.set_cons_succ]
                refine takeH 13 (some 208) (.agg (scell (csS M) (.slice q1 M.length d1))) rfl rfl (by kernel_rfl) (by kernel_rfl) (by kernel_rfl) (fun _ _ _ h => h) (yieldsIf_load_mid (by rfl) 24 (.tmp 207) rfl gm 7 (by rfl) (scell (csS M) (.slice q1 M.length d1)).toList _ (fun _ h => h.2.1) Tryz.underlying24 rfl size24) hS ?_
                try simp only [Act.put, List.setIfInBounds_toArray, List.set_cons_zero, List.set_cons_succ]
                refine takeH 14 (some 209) (.agg (scell (csS M) (.slice pS M.length cS))) rfl rfl (by kernel_rfl) (by kernel_rfl) (by kernel_rfl) (fun _ _ _ h => h) (yieldsIf_load_mid (by rfl) 24 (.tmp 3) rfl w2.heap.size 0 (by rfl) (scell (csS M) (.slice pS M.length cS)).toList _ (fun _ h => h.2.2.2) Tryz.underlying24 rfl size24) hS ?_
                try simp only [Act.put, List.setIfInBounds_toArray, List.set_cons_zero, List.set_cons_succ]
                refine wpAnyH_ready (rs := [15]) (by kernel_rfl) (by simp) (AllReadyH.cons rfl (fun K hK => ?_) AllReadyH.nil)
                go_simp
                go_at_call 10
                refine (lsame_any _ (csS M) (csS M) _ _ ((Row.of_own HPM.out.2.2.1).keep HKK1.out) ((Row.of_own HZZ.out.rS).keep HKK1.out) (by show M.length ≤ _; omega)).mono ?_
                rintro e w101 ⟨rfl, hk8⟩
                rw [smF_refl]
                have HKK2 := Hid.mk' (HKK1.out.trans hk8)
                refine hK.out _ _ (⟨fun j u hj => hk8.cell (hS.1 j u hj) id, fun j u hj => hk8.cell (hS.2.1 j u hj) id, fun j u hj => hk8.cell (hS.2.2.1 j u hj) id, fun j u hj => hk8.cell (hS.2.2.2 j u hj) id⟩) (fun hS => ?_)
                clear hK
                try simp only [Act.put, List.setIfInBounds_toArray, List.set_cons_zero, List.set_cons_succ]
                clear hk8
                refine takeH 16 (some 211) (.bool true) rfl rfl (by kernel_rfl) (by kernel_rfl) (by kernel_rfl) (fun _ _ _ h => h) (Or.inl ⟨by rfl, fun wx _ => by go_simp⟩) hS ?_
                try simp only [Act.put, List.setIfInBounds_toArray, List.set_cons_zero, List.set_cons_succ]
                refine takeH 17 (some 212) (.bool true) rfl rfl (by kernel_rfl) (by kernel_rfl) (by kernel_rfl) (fun _ _ _ h => h) (Or.inl ⟨by rfl, fun wx _ => by go_simp⟩) hS ?_
                try simp only [Act.put, List.setIfInBounds_toArray, List.set_cons_zero, List.set_cons_succ]
                refine takeH 18 (some 213) (.agg (scell (csS M) (.slice p16 M.length c16))) rfl rfl (by kernel_rfl) (by kernel_rfl) (by kernel_rfl) (fun _ _ _ h => h) (yieldsIf_load_mid (by rfl) 24 (.tmp 16) rfl w13.heap.size 0 (by rfl) (scell (csS M) (.slice p16 M.length c16)).toList _ (fun _ h => h.2.2.1) Tryz.underlying24 rfl size24) hS ?_
                try simp only [Act.put, List.setIfInBounds_toArray, List.set_cons_zero, List.set_cons_succ]
                refine takeH 19 (some 214) (.agg (scell (csS M) (.slice pS M.length cS))) rfl rfl (by kernel_rfl) (by kernel_rfl) (by kernel_rfl) (fun _ _ _ h => h) (yieldsIf_load_mid (by rfl) 24 (.tmp 3) rfl w2.heap.size 0 (by rfl) (scell (csS M) (.slice pS M.length cS)).toList _ (fun _ h => h.2.2.2) Tryz.underlying24 rfl size24) hS ?_
                try simp only [Act.put, List.setIfInBounds_toArray, List.set_cons_zero, List.set_cons_succ]
                refine wpAnyH_ready (rs := [20]) (by kernel_rfl) (by simp) (AllReadyH.cons rfl (fun K hK => ?_) AllReadyH.nil)
                go_simp
                go_at_call 10
                refine (lsame_any _ (csS M) (csS M) _ _ ((Row.of_own HPM.out.2.2.2).keep HKK2.out) ((Row.of_own HZZ.out.rS).keep HKK2.out) (by show M.length ≤ _; omega)).mono ?_
                rintro e w102 ⟨rfl, hk8⟩
                rw [smF_refl]
                have HKK3 := Hid.mk' (HKK2.out.trans hk8)
                refine hK.out _ _ (⟨fun j u hj => hk8.cell (hS.1 j u hj) id, fun j u hj => hk8.cell (hS.2.1 j u hj) id, fun j u hj => hk8.cell (hS.2.2.1 j u hj) id, fun j u hj => hk8.cell (hS.2.2.2 j u hj) id⟩) (fun hS => ?_)
                clear hK
                try simp only [Act.put, List.setIfInBounds_toArray, List.set_cons_zero, List.set_cons_succ]
                clear hk8
                refine takeH 21 (some 216) (.bool true) rfl rfl (by kernel_rfl) (by kernel_rfl) (by kernel_rfl) (fun _ _ _ h => h) (Or.inl ⟨by rfl, fun wx _ => by go_simp⟩) hS ?_
                try simp only [Act.put, List.setIfInBounds_toArray, List.set_cons_zero, List.set_cons_succ]
                refine takeH 22 (some 217) (.bool true) rfl rfl (by kernel_rfl) (by kernel_rfl) (by kernel_rfl) (fun _ _ _ h => h) (Or.inl ⟨by rfl, fun wx _ => by go_simp⟩) hS ?_
                try simp only [Act.put, List.setIfInBounds_toArray, List.set_cons_zero, List.set_cons_succ]
                refine takeH 23 (some 218) (.slice a M.length c) rfl rfl (by kernel_rfl) (by kernel_rfl) (by kernel_rfl) (fun _ _ _ h => h) (Or.inl ⟨by rfl, fun wx _ => by go_simp⟩) hS ?_
                try simp only [Act.put, List.setIfInBounds_toArray, List.set_cons_zero, List.set_cons_succ]
                refine wpAnyH_ready (rs := [24]) (by kernel_rfl) (by simp) (AllReadyH.cons rfl (fun K hK => ?_) AllReadyH.nil)
                go_simp
                go_at_call 17
                refine (lent_any _ (HV.out.keep (HZZ.out.k.trans HKK3.out)) (.slice a M.length c) M (HRM.out.keep (HZZ.out.k.trans HKK3.out)) hM300 HOM.out).mono ?_
                rintro e w110 ⟨rfl, hk8⟩
                have HKK4 := Hid.mk' (HKK3.out.trans hk8)
                refine hK.out _ _ (⟨fun j u hj => hk8.cell (hS.1 j u hj) id, fun j u hj => hk8.cell (hS.2.1 j u hj) id, fun j u hj => hk8.cell (hS.2.2.1 j u hj) id, fun j u hj => hk8.cell (hS.2.2.2 j u hj) id⟩) (fun hS => ?_)
                clear hK
                try simp only [Act.put, List.setIfInBounds_toArray, List.set_cons_zero, List.set_cons_succ]
                clear hk8
                refine takeH 25 (some 220) (.bool true) rfl rfl (by kernel_rfl) (by kernel_rfl) (by kernel_rfl) (fun _ _ _ h => h) (Or.inl ⟨by rfl, fun wx _ => by go_simp⟩) hS ?_
                try simp only [Act.put, List.setIfInBounds_toArray, List.set_cons_zero, List.set_cons_succ]
                refine takeH 26 (some 2) (.bool true) rfl rfl (by kernel_rfl) (by kernel_rfl) (by kernel_rfl) (fun _ _ _ h => h) (Or.inl ⟨by rfl, fun wx _ => by go_simp⟩) hS ?_
                try simp only [Act.put]
                refine wpAnyH_done (by kernel_rfl) ?_ _
                clear hS
                go_wp2
                go_ret
                exact ⟨rfl, HZZ.out.k.trans HKK4.out⟩
end Go.Proofs.YtdlhdompemkjfaaGreatDoor
