import Derived.Test.YtfekgfimbkgkfabE0
namespace Go.Proofs.Ytfekgfimbkgkfab
open Go.RowKit Go.Maps

set_option maxHeartbeats 8000000 in
set_option maxRecDepth 100000 in
theorem cleans_walk (w : World) (v0 : Value) (l : List Ed) (h0 : Row w v0 l.length (ecells l)) (hl : l.length ≤ 3518437208780) (ho : ∀ e ∈ l, EdOk e) (vp : Value) (p : List ByteArray) (sl : Bool) (hp : Row w vp p.length (strs p)) (hk : PsOk p) :
    Calls Try.prog 3 #[v0, .agg #[vp, .bool sl]] w fun e w' => e = .returned (.bool true) ∧ Keeps (fun _ => False) w w' := by
  have hA : Keeps (fun _ => False) w (w.alloc (.cells #[vp, .bool sl] 25)) := (Keeps.refl _ w).alloc _
  have h9 := newTable_any (w.alloc (.cells #[vp, .bool sl] 25)) v0 l (h0.keep hA) (by omega) ho
  have HP0 : Hid (PB (w.alloc (.cells #[vp, .bool sl] 25)) w.heap.size vp p sl ∧ Keeps (fun _ => False) w (w.alloc (.cells #[vp, .bool sl] 25))) := ⟨⟨heap_last _ _, hp.keep hA⟩, hA⟩
  have HF : Hid (wfF (tabF l)) := wfF_tab ho
  have HK : Hid (PsOk p) := hk
  obtain ⟨va, vcp, rfl, _⟩ := hp
  generalize tabF l = F at h9 HF
  generalize l.length = n at h9
  clear h0 hl ho hA hk
  go_enter Try.func3, Try.ntmps3
  go_wp2_with (first
    | (go_at_call 9; refine h9.mono ?_; clear h9; rintro e w1 ⟨rfl, H1⟩
       have h10 := first_any w1)
    | (go_at_call 10; refine h10.mono ?_; clear h10; rintro e w2 ⟨rfl, hk2⟩
       have HC2 : Hid (Keeps (fun _ => False) w w2 ∧ TabAt w2 _ _ n F ∧ PB w2 w.heap.size (.slice va p.length vcp) p sl) := ⟨(HP0.out.2.trans H1.out.2).trans hk2, H1.out.1.grow hk2, HP0.out.1.keep (H1.out.2.trans hk2)⟩
       have x0 := HC2.out.2.2.c0
       have x1 := HC2.out.2.2.c1
       have h11 := clean_any w2 _ p sl HC2.out.2.2.row HK.out.1 HK.out.2
       clear hk2)
    | (go_at_call 11; refine h11.mono ?_; clear h11; rintro e w3 ⟨r, rfl, H3⟩
       obtain ⟨ra, rc, er, _⟩ := Row.of_own H3.out.1
       subst er
       have hA := (Keeps.refl (fun _ => False) w3).alloc (.cells #[.slice ra (clP p).length rc, .bool (clS p sl)] 25)
       have HC3 : Hid (CS w _ _ n F w.heap.size (.slice va p.length vcp) p sl w3.heap.size (.slice ra (clP p).length rc) (clP p) (clS p sl) (w3.alloc (.cells #[.slice ra (clP p).length rc, .bool (clS p sl)] 25))) := ⟨(HC2.out.1.trans H3.out.2).trans hA, HC2.out.2.1.grow (H3.out.2.trans hA), HC2.out.2.2.keep (H3.out.2.trans hA), ⟨heap_last _ _, (Row.of_own H3.out.1).keep hA⟩⟩
       clear hA))
  generalize w3.alloc (.cells #[.slice ra (clP p).length rc, .bool (clS p sl)] 25) = W at HC3 ⊢
  clear x0 x1 HC2 H1 HP0
  have HG : Hid (dotty (clP p) = false ∧ clP (clP p) = clP p ∧ clS (clP p) (clS p sl) = clS p sl ∧ PsOk (clP p)) := ⟨clP_dotty p, clP_clP p, clS_clP p sl, HK.out.clean⟩
  have hlen : ¬ ((p.length : Int) < ((clP p).length : Int)) := by have := clP_len p; omega
  have HE : Hid ((clP p).length = 0 → clS p sl = false) := fun h => by unfold clS; rw [List.length_eq_zero_iff.1 h]; rfl
  have HD : Hid (dotty p = false → p ≠ [] → clP p = p ∧ clS p sl = sl) := fun h1 h2 => ⟨clP_plain h1, clS_plain h1 h2 sl⟩
  have HV1 := Hid.mk' (rsv_clean F p sl)
  have HV2 := Hid.mk' (rsv_bad F p sl)
  generalize clP p = c at *
  generalize clS p sl = sc at *
  have HS : Hid (∀ W', CS w (w.heap.size + 1 + 1) (w.heap.size + 1) n F w.heap.size (.slice va p.length vcp) p sl w3.heap.size (.slice ra c.length rc) c sc W' → (W'.cell? ⟨w3.heap.size, 0, none⟩ = some (.slice ra c.length rc) ∧ W'.cell? ⟨w3.heap.size, 1, none⟩ = some (.bool sc) ∧ W'.cell? ⟨w.heap.size, 0, none⟩ = some (.slice va p.length vcp) ∧ W'.cell? ⟨w.heap.size, 1, none⟩ = some (.bool sl))) := fun W' h => ⟨h.cc.c0, h.cc.c1, h.pp.c0, h.pp.c1⟩
  have HC : Hid (CS w (w.heap.size + 1 + 1) (w.heap.size + 1) n F w.heap.size (.slice va p.length vcp) p sl w3.heap.size (.slice ra c.length rc) c sc W) := by
    have := HC3.out
    rwa [World.size_alloc] at this
  clear HC3
  have h12 : ∀ m, Calls Try.prog 12 #[.agg #[(.slice ra c.length rc), .bool sc]] (W.drewN m) fun e w' => e = .returned (.bool false) ∧ Hid (CS w (w.heap.size + 1 + 1) (w.heap.size + 1) n F w.heap.size (.slice va p.length vcp) p sl w3.heap.size (.slice ra c.length rc) c sc w') ∧ (w'.cell? ⟨w3.heap.size, 0, none⟩ = some (.slice ra c.length rc) ∧ w'.cell? ⟨w3.heap.size, 1, none⟩ = some (.bool sc) ∧ w'.cell? ⟨w.heap.size, 0, none⟩ = some (.slice va p.length vcp) ∧ w'.cell? ⟨w.heap.size, 1, none⟩ = some (.bool sl)) := fun m => by
    have hC := HC.out.keep (Keeps.drewN _ W m)
    refine (dots_any (W.drewN m) _ c sc hC.cc.row HG.out.2.2.2.1).mono ?_
    rintro e w' ⟨rfl, hk⟩
    have hC := hC.keep hk
    exact ⟨by rw [HG.out.1], hC, HS.out _ hC⟩
  have h11 : ∀ w4, Hid (CS w (w.heap.size + 1 + 1) (w.heap.size + 1) n F w.heap.size (.slice va p.length vcp) p sl w3.heap.size (.slice ra c.length rc) c sc w4) → Calls Try.prog 11 #[.agg #[(.slice ra c.length rc), .bool sc]] w4 fun e w' => ∃ r2 : Option Addr, ∃ c2 : Nat, e = .returned (.agg #[.slice r2 c.length c2, .bool sc]) ∧ Hid (CS w (w.heap.size + 1 + 1) (w.heap.size + 1) n F w.heap.size (.slice va p.length vcp) p sl w3.heap.size (.slice ra c.length rc) c sc w' ∧ Row w' (.slice r2 c.length c2) c.length (strs c)) ∧ (w'.cell? ⟨w3.heap.size, 0, none⟩ = some (.slice ra c.length rc) ∧ w'.cell? ⟨w3.heap.size, 1, none⟩ = some (.bool sc) ∧ w'.cell? ⟨w.heap.size, 0, none⟩ = some (.slice va p.length vcp) ∧ w'.cell? ⟨w.heap.size, 1, none⟩ = some (.bool sl)) := fun w4 H4 => by
    refine (clean_any w4 _ c sc H4.out.cc.row HG.out.2.2.2.1 HG.out.2.2.2.2).mono ?_
    rintro e w' ⟨r2, rfl, H5⟩
    have hC := H4.out.keep H5.out.2
    have hr := Row.of_own H5.out.1
    rw [HG.out.2.1] at hr
    obtain ⟨a2, c2, e2, _⟩ := id hr
    subst e2
    exact ⟨a2, c2, by rw [HG.out.2.2.1], ⟨hC, hr⟩, HS.out _ hC⟩
  have h13 : ∀ (w5 : World) (r2 : Option Addr) (c2 : Nat), Hid (CS w (w.heap.size + 1 + 1) (w.heap.size + 1) n F w.heap.size (.slice va p.length vcp) p sl w3.heap.size (.slice ra c.length rc) c sc w5 ∧ Row w5 (.slice r2 c.length c2) c.length (strs c)) → Calls Try.prog 13 #[.agg #[.slice r2 c.length c2, .bool sc], .agg #[(.slice ra c.length rc), .bool sc]] w5 fun e w' => e = .returned (.bool true) ∧ Hid (CS w (w.heap.size + 1 + 1) (w.heap.size + 1) n F w.heap.size (.slice va p.length vcp) p sl w3.heap.size (.slice ra c.length rc) c sc w') ∧ (w'.cell? ⟨w3.heap.size, 0, none⟩ = some (.slice ra c.length rc) ∧ w'.cell? ⟨w3.heap.size, 1, none⟩ = some (.bool sc) ∧ w'.cell? ⟨w.heap.size, 0, none⟩ = some (.slice va p.length vcp) ∧ w'.cell? ⟨w.heap.size, 1, none⟩ = some (.bool sl)) := fun w5 r2 c2 H5 => by
    refine (same_any w5 _ _ c c sc sc H5.out.2 H5.out.1.cc.row HG.out.2.2.2.1).mono ?_
    rintro e w' ⟨rfl, hk⟩
    have hC := H5.out.1.keep hk
    exact ⟨by simp, hC, HS.out _ hC⟩
  obtain ⟨q0, q1, q2, q3⟩ := HS.out _ HC.out
  have hlen2 : decide ((p.length : Int) < (c.length : Int)) = false := decide_eq_false hlen
  have hlen3 : ¬ p.length < c.length := by omega
  have hlen4 : decide (p.length < c.length) = false := decide_eq_false hlen3
  have h12p : ∀ w6, Hid (CS w (w.heap.size + 1 + 1) (w.heap.size + 1) n F w.heap.size (.slice va p.length vcp) p sl w3.heap.size (.slice ra c.length rc) c sc w6) → Calls Try.prog 12 #[.agg #[.slice va p.length vcp, .bool sl]] w6 fun e w' => e = .returned (.bool (dotty p)) ∧ Hid (CS w (w.heap.size + 1 + 1) (w.heap.size + 1) n F w.heap.size (.slice va p.length vcp) p sl w3.heap.size (.slice ra c.length rc) c sc w') := fun w6 H6 => by
    refine (dots_any w6 _ p sl H6.out.pp.row HK.out.1).mono ?_
    rintro e w' ⟨rfl, hk⟩
    exact ⟨rfl, H6.out.keep hk⟩
  have h13p : ∀ w6, Hid (CS w (w.heap.size + 1 + 1) (w.heap.size + 1) n F w.heap.size (.slice va p.length vcp) p sl w3.heap.size (.slice ra c.length rc) c sc w6) → c = p ∧ sc = sl → Calls Try.prog 13 #[.agg #[.slice ra c.length rc, .bool sc], .agg #[.slice va p.length vcp, .bool sl]] w6 fun e w' => e = .returned (.bool true) ∧ Hid (CS w (w.heap.size + 1 + 1) (w.heap.size + 1) n F w.heap.size (.slice va p.length vcp) p sl w3.heap.size (.slice ra c.length rc) c sc w') := fun w6 H6 he => by
    refine (same_any w6 _ _ c p sc sl H6.out.cc.row H6.out.pp.row HG.out.2.2.2.1).mono ?_
    rintro e w' ⟨rfl, hk⟩
    exact ⟨by simp [he], H6.out.keep hk⟩
  have h14p : ∀ w6, Hid (CS w (w.heap.size + 1 + 1) (w.heap.size + 1) n F w.heap.size (.slice va p.length vcp) p sl w3.heap.size (.slice ra c.length rc) c sc w6) → Calls Try.prog 14 #[.iface 26 (.pointer (some ⟨w.heap.size + 1 + 1, 0, none⟩)), .agg #[.slice va p.length vcp, .bool sl]] w6 fun e w' => e = .returned (.tuple #[.int .i64 (rsv F p sl).1, .bool (rsv F p sl).2.1, .int .i64 (rsv F p sl).2.2]) ∧ Hid (CS w (w.heap.size + 1 + 1) (w.heap.size + 1) n F w.heap.size (.slice va p.length vcp) p sl w3.heap.size (.slice ra c.length rc) c sc w') := fun w6 H6 => by
    refine (resolve_any w6 _ _ n F H6.out.tab HF.out _ p sl H6.out.pp.row HK.out.1 HK.out.2).mono ?_
    rintro e w' ⟨rfl, hk⟩
    exact ⟨rfl, H6.out.keep hk⟩
  have h14c : ∀ w6, Hid (CS w (w.heap.size + 1 + 1) (w.heap.size + 1) n F w.heap.size (.slice va p.length vcp) p sl w3.heap.size (.slice ra c.length rc) c sc w6) → Calls Try.prog 14 #[.iface 26 (.pointer (some ⟨w.heap.size + 1 + 1, 0, none⟩)), .agg #[.slice ra c.length rc, .bool sc]] w6 fun e w' => e = .returned (.tuple #[.int .i64 (rsv F c sc).1, .bool (rsv F c sc).2.1, .int .i64 (rsv F c sc).2.2]) ∧ Hid (CS w (w.heap.size + 1 + 1) (w.heap.size + 1) n F w.heap.size (.slice va p.length vcp) p sl w3.heap.size (.slice ra c.length rc) c sc w') := fun w6 H6 => by
    refine (resolve_any w6 _ _ n F H6.out.tab HF.out _ c sc H6.out.cc.row HG.out.2.2.2.1 HG.out.2.2.2.2).mono ?_
    rintro e w' ⟨rfl, hk⟩
    exact ⟨rfl, H6.out.keep hk⟩
  have HX : Hid (∀ w6, Hid (CS w (w.heap.size + 1 + 1) (w.heap.size + 1) n F w.heap.size (.slice va p.length vcp) p sl w3.heap.size (.slice ra c.length rc) c sc w6) → w6.cell? ⟨w3.heap.size, 0, none⟩ = some (.slice ra c.length rc) ∧ w6.cell? ⟨w3.heap.size, 1, none⟩ = some (.bool sc) ∧ w6.cell? ⟨w.heap.size, 0, none⟩ = some (.slice va p.length vcp) ∧ w6.cell? ⟨w.heap.size, 1, none⟩ = some (.bool sl)) := fun w6 H6 => HS.out _ H6.out
  generalize rsv F p sl = y at h14p HV1 HV2
  generalize rsv F c sc = z at h14c HV1
  obtain ⟨N, B, E⟩ := y
  simp only at h14p HV1 HV2
  have HCASE : (E = 0 ∧ z = (N, B, 0) ∧ 1 ≤ N) ∨ (E = 143 ∧ N = 0 ∧ B = false) ∨ (E = 144 ∧ N = 0 ∧ B = false) := by
    by_cases h0 : E = 0
    · subst h0
      exact Or.inl ⟨rfl, (HV1.out rfl).1, (HV1.out rfl).2⟩
    · obtain ⟨h1, h2, h3⟩ := HV2.out h0
      rcases h1 with h1 | h1
      · exact Or.inr (Or.inl ⟨h1, h2, h3⟩)
      · exact Or.inr (Or.inr ⟨h1, h2, h3⟩)
  by_cases hc0 : c.length = 0
  · have hsc := HE.out hc0
    subst hsc
    have hc1 : (c.length : Int) = 0 := by omega
    have hc2 : ((c.length : Int) == 0) = true := beq_iff_eq.2 hc1
    have hc3 : (c.length == 0) = true := beq_iff_eq.2 hc0
    have HC0 := Hid.mk' hc0
    clear hc0 hc1 hc3
    refine wp_region_held_drew (S := fun wx => (wx.cell? ⟨w3.heap.size, 0, none⟩ = some (.slice ra c.length rc) ∧ wx.cell? ⟨w3.heap.size, 1, none⟩ = some (.bool false) ∧ wx.cell? ⟨w.heap.size, 0, none⟩ = some (.slice va p.length vcp) ∧ wx.cell? ⟨w.heap.size, 1, none⟩ = some (.bool sl))) (by kernel_rfl) ⟨q0, q1, q2, q3⟩ (fun hS => ?_)
    refine takeH 0 (some 23) (.agg #[(.slice ra c.length rc), .bool false]) rfl rfl (by kernel_rfl) (by kernel_rfl) (by kernel_rfl) (fun _ _ _ h => h) (Or.inl ⟨by rfl, fun wx ⟨s0, s1, s2, s3⟩ => by go_simp⟩) hS ?_
    simp only [Act.put, List.setIfInBounds_toArray, List.set_cons_zero, List.set_cons_succ]
    refine wpAnyH_ready (rs := [1]) (by kernel_rfl) (by simp) (AllReadyH.cons rfl (fun K hK => ?_) AllReadyH.nil)
    go_simp
    go_at_call 12
    refine (h12 _).mono ?_; clear h12; rintro e w4 ⟨rfl, H4, y0, y1, y2, y3⟩
    refine hK.out _ _ ⟨y0, y1, y2, y3⟩ (fun hS => ?_)
    clear hK
    try simp only [Act.put, List.setIfInBounds_toArray, List.set_cons_zero, List.set_cons_succ]
    refine takeH 2 (some 25) (.bool false) rfl rfl (by kernel_rfl) (by kernel_rfl) (by kernel_rfl) (fun _ _ _ h => h) (Or.inl ⟨by rfl, fun wx ⟨s0, s1, s2, s3⟩ => by go_simp⟩) hS ?_
    simp only [Act.put, List.setIfInBounds_toArray, List.set_cons_zero, List.set_cons_succ]
    refine takeH 3 (some 26) (.pointer (some ⟨w3.heap.size, 0, none⟩)) rfl rfl (by kernel_rfl) (by kernel_rfl) (by kernel_rfl) (fun _ _ _ h => h) (Or.inl ⟨by rfl, fun wx ⟨s0, s1, s2, s3⟩ => by go_simp⟩) hS ?_
    simp only [Act.put, List.setIfInBounds_toArray, List.set_cons_zero, List.set_cons_succ]
    refine takeH 4 (some 27) (.slice ra c.length rc) rfl rfl (by kernel_rfl) (by kernel_rfl) (by kernel_rfl) (fun _ _ _ h => h) (Or.inl ⟨by rfl, fun wx ⟨s0, s1, s2, s3⟩ => by go_simp⟩) hS ?_
    simp only [Act.put, List.setIfInBounds_toArray, List.set_cons_zero, List.set_cons_succ]
    refine takeH 5 (some 28) (.int .i64 c.length) rfl rfl (by kernel_rfl) (by kernel_rfl) (by kernel_rfl) (fun _ _ _ h => h) (Or.inl ⟨by rfl, fun wx ⟨s0, s1, s2, s3⟩ => by go_simp⟩) hS ?_
    simp only [Act.put, List.setIfInBounds_toArray, List.set_cons_zero, List.set_cons_succ]
    refine takeH 6 (some 29) (.pointer (some ⟨w.heap.size, 0, none⟩)) rfl rfl (by kernel_rfl) (by kernel_rfl) (by kernel_rfl) (fun _ _ _ h => h) (Or.inl ⟨by rfl, fun wx ⟨s0, s1, s2, s3⟩ => by go_simp⟩) hS ?_
    simp only [Act.put, List.setIfInBounds_toArray, List.set_cons_zero, List.set_cons_succ]
    refine takeH 7 (some 30) (.slice va p.length vcp) rfl rfl (by kernel_rfl) (by kernel_rfl) (by kernel_rfl) (fun _ _ _ h => h) (Or.inl ⟨by rfl, fun wx ⟨s0, s1, s2, s3⟩ => by go_simp⟩) hS ?_
    simp only [Act.put, List.setIfInBounds_toArray, List.set_cons_zero, List.set_cons_succ]
    refine takeH 8 (some 31) (.int .i64 p.length) rfl rfl (by kernel_rfl) (by kernel_rfl) (by kernel_rfl) (fun _ _ _ h => h) (Or.inl ⟨by rfl, fun wx ⟨s0, s1, s2, s3⟩ => by go_simp⟩) hS ?_
    simp only [Act.put, List.setIfInBounds_toArray, List.set_cons_zero, List.set_cons_succ]
    refine takeH 9 (some 32) (.bool false) rfl rfl (by kernel_rfl) (by kernel_rfl) (by kernel_rfl) (fun _ _ _ h => h) (Or.inl ⟨by rfl, fun wx ⟨s0, s1, s2, s3⟩ => by go_simp⟩) hS ?_
    simp only [Act.put, List.setIfInBounds_toArray, List.set_cons_zero, List.set_cons_succ]
    refine takeH 10 (some 33) (.bool false) rfl rfl (by kernel_rfl) (by kernel_rfl) (by kernel_rfl) (fun _ _ _ h => h) (Or.inl ⟨by rfl, fun wx ⟨s0, s1, s2, s3⟩ => by go_simp⟩) hS ?_
    simp only [Act.put, List.setIfInBounds_toArray, List.set_cons_zero, List.set_cons_succ]
    refine takeH 11 (some 34) (.bool false) rfl rfl (by kernel_rfl) (by kernel_rfl) (by kernel_rfl) (fun _ _ _ h => h) (Or.inl ⟨by rfl, fun wx ⟨s0, s1, s2, s3⟩ => by go_simp⟩) hS ?_
    simp only [Act.put, List.setIfInBounds_toArray, List.set_cons_zero, List.set_cons_succ]
    refine takeH 12 (some 35) (.agg #[(.slice ra c.length rc), .bool false]) rfl rfl (by kernel_rfl) (by kernel_rfl) (by kernel_rfl) (fun _ _ _ h => h) (Or.inl ⟨by rfl, fun wx ⟨s0, s1, s2, s3⟩ => by go_simp⟩) hS ?_
    simp only [Act.put, List.setIfInBounds_toArray, List.set_cons_zero, List.set_cons_succ]
    refine takeH 14 (some 37) (.agg #[(.slice ra c.length rc), .bool false]) rfl rfl (by kernel_rfl) (by kernel_rfl) (by kernel_rfl) (fun _ _ _ h => h) (Or.inl ⟨by rfl, fun wx ⟨s0, s1, s2, s3⟩ => by go_simp⟩) hS ?_
    simp only [Act.put, List.setIfInBounds_toArray, List.set_cons_zero, List.set_cons_succ]
    refine wpAnyH_ready (rs := [13]) (by kernel_rfl) (by simp) (AllReadyH.cons rfl (fun K hK => ?_) AllReadyH.nil)
    go_simp
    go_at_call 11
    refine (h11 _ H4).mono ?_; clear h11; rintro e w5 ⟨r2, c2, rfl, H5, y0, y1, y2, y3⟩
    refine hK.out _ _ ⟨y0, y1, y2, y3⟩ (fun hS => ?_)
    clear hK
    try simp only [Act.put, List.setIfInBounds_toArray, List.set_cons_zero, List.set_cons_succ]
    refine wpAnyH_ready (rs := [15]) (by kernel_rfl) (by simp) (AllReadyH.cons rfl (fun K hK => ?_) AllReadyH.nil)
    go_simp
    go_at_call 13
    refine (h13 _ _ _ H5).mono ?_; clear h13; rintro e w6 ⟨rfl, H6, y0, y1, y2, y3⟩
    refine hK.out _ _ ⟨y0, y1, y2, y3⟩ (fun hS => ?_)
    clear hK
    try simp only [Act.put, List.setIfInBounds_toArray, List.set_cons_zero, List.set_cons_succ]
    refine takeH 16 (some 39) (.bool false) rfl rfl (by kernel_rfl) (by kernel_rfl) (by kernel_rfl) (fun _ _ _ h => h) (Or.inl ⟨by rfl, fun wx ⟨s0, s1, s2, s3⟩ => by go_simp⟩) hS ?_
    simp only [Act.put, List.setIfInBounds_toArray, List.set_cons_zero, List.set_cons_succ]
    refine takeH 17 (some 40) (.bool false) rfl rfl (by kernel_rfl) (by kernel_rfl) (by kernel_rfl) (fun _ _ _ h => h) (Or.inl ⟨by rfl, fun wx ⟨s0, s1, s2, s3⟩ => by go_simp⟩) hS ?_
    simp only [Act.put, List.setIfInBounds_toArray, List.set_cons_zero, List.set_cons_succ]
    refine takeH 18 (some 41) (.bool false) rfl rfl (by kernel_rfl) (by kernel_rfl) (by kernel_rfl) (fun _ _ _ h => h) (Or.inl ⟨by rfl, fun wx ⟨s0, s1, s2, s3⟩ => by go_simp⟩) hS ?_
    simp only [Act.put, List.setIfInBounds_toArray, List.set_cons_zero, List.set_cons_succ]
    refine takeH 19 (some 42) (.pointer (some ⟨w3.heap.size, 0, none⟩)) rfl rfl (by kernel_rfl) (by kernel_rfl) (by kernel_rfl) (fun _ _ _ h => h) (Or.inl ⟨by rfl, fun wx ⟨s0, s1, s2, s3⟩ => by go_simp⟩) hS ?_
    simp only [Act.put, List.setIfInBounds_toArray, List.set_cons_zero, List.set_cons_succ]
    refine takeH 20 (some 43) (.slice ra c.length rc) rfl rfl (by kernel_rfl) (by kernel_rfl) (by kernel_rfl) (fun _ _ _ h => h) (Or.inl ⟨by rfl, fun wx ⟨s0, s1, s2, s3⟩ => by go_simp⟩) hS ?_
    simp only [Act.put, List.setIfInBounds_toArray, List.set_cons_zero, List.set_cons_succ]
    refine takeH 21 (some 44) (.int .i64 c.length) rfl rfl (by kernel_rfl) (by kernel_rfl) (by kernel_rfl) (fun _ _ _ h => h) (Or.inl ⟨by rfl, fun wx ⟨s0, s1, s2, s3⟩ => by go_simp⟩) hS ?_
    simp only [Act.put, List.setIfInBounds_toArray, List.set_cons_zero, List.set_cons_succ]
    refine takeH 22 (some 45) (.bool true) rfl rfl (by kernel_rfl) (by kernel_rfl) (by kernel_rfl) (fun _ _ _ h => h) (Or.inl ⟨by rfl, fun wx ⟨s0, s1, s2, s3⟩ => by go_simp⟩) hS ?_
    simp only [Act.put, List.setIfInBounds_toArray, List.set_cons_zero, List.set_cons_succ]
    refine takeH 23 (some 46) (.bool true) rfl rfl (by kernel_rfl) (by kernel_rfl) (by kernel_rfl) (fun _ _ _ h => h) (Or.inl ⟨by rfl, fun wx ⟨s0, s1, s2, s3⟩ => by go_simp⟩) hS ?_
    simp only [Act.put, List.setIfInBounds_toArray, List.set_cons_zero, List.set_cons_succ]
    refine takeH 24 (some 47) (.pointer (some ⟨w3.heap.size, 1, none⟩)) rfl rfl (by kernel_rfl) (by kernel_rfl) (by kernel_rfl) (fun _ _ _ h => h) (Or.inl ⟨by rfl, fun wx ⟨s0, s1, s2, s3⟩ => by go_simp⟩) hS ?_
    simp only [Act.put, List.setIfInBounds_toArray, List.set_cons_zero, List.set_cons_succ]
    refine takeH 25 (some 48) (.bool false) rfl rfl (by kernel_rfl) (by kernel_rfl) (by kernel_rfl) (fun _ _ _ h => h) (Or.inl ⟨by rfl, fun wx ⟨s0, s1, s2, s3⟩ => by go_simp⟩) hS ?_
    simp only [Act.put, List.setIfInBounds_toArray, List.set_cons_zero, List.set_cons_succ]
    refine takeH 26 (some 49) (.bool false) rfl rfl (by kernel_rfl) (by kernel_rfl) (by kernel_rfl) (fun _ _ _ h => h) (Or.inl ⟨by rfl, fun wx ⟨s0, s1, s2, s3⟩ => by go_simp⟩) hS ?_
    simp only [Act.put, List.setIfInBounds_toArray, List.set_cons_zero, List.set_cons_succ]
    refine takeH 27 (some 50) (.bool false) rfl rfl (by kernel_rfl) (by kernel_rfl) (by kernel_rfl) (fun _ _ _ h => h) (Or.inl ⟨by rfl, fun wx ⟨s0, s1, s2, s3⟩ => by go_simp⟩) hS ?_
    simp only [Act.put, List.setIfInBounds_toArray, List.set_cons_zero, List.set_cons_succ]
    refine wpAnyH_done (by kernel_rfl) ?_ _
    clear H4 H5
    obtain ⟨y0, y1, y2, y3⟩ := HX.out _ H6
    have HQ : (dotty p = true ∨ (dotty p = false ∧ p.length = 0)) ∨ (dotty p = false ∧ p.length ≠ 0 ∧ c = p ∧ false = sl) := by
      rcases Bool.eq_false_or_eq_true (dotty p) with h | h
      · exact Or.inl (Or.inl h)
      · by_cases h2 : p.length = 0
        · exact Or.inl (Or.inr ⟨h, h2⟩)
        · exact Or.inr ⟨h, h2, HD.out h (fun e => h2 (by rw [e]; rfl))⟩
    rcases HQ with (hQ | ⟨hQ, hQ0⟩) | ⟨hQ, hQ0, hQ1⟩
    · rw [hQ] at h12p
      clear hQ h13p
      rcases HCASE with ⟨rfl, rfl, hN⟩ | ⟨rfl, rfl, rfl⟩ | ⟨rfl, rfl, rfl⟩
      all_goals
        go_wp2_with (first
          | (go_at_call 14; refine (h14c _ H8).mono ?_; clear h14c; rintro e w9 ⟨rfl, H9⟩)
          | (go_at_call 14; refine (h14p _ H7b).mono ?_; clear h14p; rintro e w8 ⟨rfl, H8⟩; obtain ⟨u0, u1, u2, u3⟩ := HX.out _ H8)
          | (go_at_call 14; refine (h14p _ H7).mono ?_; clear h14p; rintro e w8 ⟨rfl, H8⟩; obtain ⟨u0, u1, u2, u3⟩ := HX.out _ H8)
          | (go_at_call 13; refine (h13p _ H7 HQ1.out).mono ?_; clear h13p; rintro e w7b ⟨rfl, H7b⟩; obtain ⟨g0, g1, g2, g3⟩ := HX.out _ H7b)
          | (go_at_call 12; refine (h12p _ H6).mono ?_; clear h12p; rintro e w7 ⟨rfl, H7⟩; obtain ⟨z0, z1, z2, z3⟩ := HX.out _ H7))
        go_ret
        first | exact ⟨rfl, H9.out.kp⟩ | exact ⟨rfl, H8.out.kp⟩
    · rw [hQ] at h12p
      have hp0 : ¬ ((0 : Int) < (p.length : Int)) := by omega
      have hp1 : ¬ (0 < p.length) := by omega
      have HQ0 := Hid.mk' hQ0
      clear hQ h13p hQ0
      rcases HCASE with ⟨rfl, rfl, hN⟩ | ⟨rfl, rfl, rfl⟩ | ⟨rfl, rfl, rfl⟩
      all_goals
        go_wp2_with (first
          | (go_at_call 14; refine (h14c _ H8).mono ?_; clear h14c; rintro e w9 ⟨rfl, H9⟩)
          | (go_at_call 14; refine (h14p _ H7b).mono ?_; clear h14p; rintro e w8 ⟨rfl, H8⟩; obtain ⟨u0, u1, u2, u3⟩ := HX.out _ H8)
          | (go_at_call 14; refine (h14p _ H7).mono ?_; clear h14p; rintro e w8 ⟨rfl, H8⟩; obtain ⟨u0, u1, u2, u3⟩ := HX.out _ H8)
          | (go_at_call 13; refine (h13p _ H7 HQ1.out).mono ?_; clear h13p; rintro e w7b ⟨rfl, H7b⟩; obtain ⟨g0, g1, g2, g3⟩ := HX.out _ H7b)
          | (go_at_call 12; refine (h12p _ H6).mono ?_; clear h12p; rintro e w7 ⟨rfl, H7⟩; obtain ⟨z0, z1, z2, z3⟩ := HX.out _ H7))
        go_ret
        first | exact ⟨rfl, H9.out.kp⟩ | exact ⟨rfl, H8.out.kp⟩
    · exact absurd (by rw [← hQ1.1]; exact HC0.out) hQ0
  · have hc1 : ¬ ((c.length : Int) = 0) := by omega
    have hc2 : ((c.length : Int) == 0) = false := beq_eq_false_iff_ne.2 hc1
    have hc3 : (c.length == 0) = false := beq_eq_false_iff_ne.2 hc0
    refine wp_region_held_drew (S := fun wx => (wx.cell? ⟨w3.heap.size, 0, none⟩ = some (.slice ra c.length rc) ∧ wx.cell? ⟨w3.heap.size, 1, none⟩ = some (.bool sc) ∧ wx.cell? ⟨w.heap.size, 0, none⟩ = some (.slice va p.length vcp) ∧ wx.cell? ⟨w.heap.size, 1, none⟩ = some (.bool sl))) (by kernel_rfl) ⟨q0, q1, q2, q3⟩ (fun hS => ?_)
    refine takeH 0 (some 23) (.agg #[(.slice ra c.length rc), .bool sc]) rfl rfl (by kernel_rfl) (by kernel_rfl) (by kernel_rfl) (fun _ _ _ h => h) (Or.inl ⟨by rfl, fun wx ⟨s0, s1, s2, s3⟩ => by go_simp⟩) hS ?_
    simp only [Act.put, List.setIfInBounds_toArray, List.set_cons_zero, List.set_cons_succ]
    refine wpAnyH_ready (rs := [1]) (by kernel_rfl) (by simp) (AllReadyH.cons rfl (fun K hK => ?_) AllReadyH.nil)
    go_simp
    go_at_call 12
    refine (h12 _).mono ?_; clear h12; rintro e w4 ⟨rfl, H4, y0, y1, y2, y3⟩
    refine hK.out _ _ ⟨y0, y1, y2, y3⟩ (fun hS => ?_)
    clear hK
    try simp only [Act.put, List.setIfInBounds_toArray, List.set_cons_zero, List.set_cons_succ]
    refine takeH 2 (some 25) (.bool false) rfl rfl (by kernel_rfl) (by kernel_rfl) (by kernel_rfl) (fun _ _ _ h => h) (Or.inl ⟨by rfl, fun wx ⟨s0, s1, s2, s3⟩ => by go_simp⟩) hS ?_
    simp only [Act.put, List.setIfInBounds_toArray, List.set_cons_zero, List.set_cons_succ]
    refine takeH 3 (some 26) (.pointer (some ⟨w3.heap.size, 0, none⟩)) rfl rfl (by kernel_rfl) (by kernel_rfl) (by kernel_rfl) (fun _ _ _ h => h) (Or.inl ⟨by rfl, fun wx ⟨s0, s1, s2, s3⟩ => by go_simp⟩) hS ?_
    simp only [Act.put, List.setIfInBounds_toArray, List.set_cons_zero, List.set_cons_succ]
    refine takeH 4 (some 27) (.slice ra c.length rc) rfl rfl (by kernel_rfl) (by kernel_rfl) (by kernel_rfl) (fun _ _ _ h => h) (Or.inl ⟨by rfl, fun wx ⟨s0, s1, s2, s3⟩ => by go_simp⟩) hS ?_
    simp only [Act.put, List.setIfInBounds_toArray, List.set_cons_zero, List.set_cons_succ]
    refine takeH 5 (some 28) (.int .i64 c.length) rfl rfl (by kernel_rfl) (by kernel_rfl) (by kernel_rfl) (fun _ _ _ h => h) (Or.inl ⟨by rfl, fun wx ⟨s0, s1, s2, s3⟩ => by go_simp⟩) hS ?_
    simp only [Act.put, List.setIfInBounds_toArray, List.set_cons_zero, List.set_cons_succ]
    refine takeH 6 (some 29) (.pointer (some ⟨w.heap.size, 0, none⟩)) rfl rfl (by kernel_rfl) (by kernel_rfl) (by kernel_rfl) (fun _ _ _ h => h) (Or.inl ⟨by rfl, fun wx ⟨s0, s1, s2, s3⟩ => by go_simp⟩) hS ?_
    simp only [Act.put, List.setIfInBounds_toArray, List.set_cons_zero, List.set_cons_succ]
    refine takeH 7 (some 30) (.slice va p.length vcp) rfl rfl (by kernel_rfl) (by kernel_rfl) (by kernel_rfl) (fun _ _ _ h => h) (Or.inl ⟨by rfl, fun wx ⟨s0, s1, s2, s3⟩ => by go_simp⟩) hS ?_
    simp only [Act.put, List.setIfInBounds_toArray, List.set_cons_zero, List.set_cons_succ]
    refine takeH 8 (some 31) (.int .i64 p.length) rfl rfl (by kernel_rfl) (by kernel_rfl) (by kernel_rfl) (fun _ _ _ h => h) (Or.inl ⟨by rfl, fun wx ⟨s0, s1, s2, s3⟩ => by go_simp⟩) hS ?_
    simp only [Act.put, List.setIfInBounds_toArray, List.set_cons_zero, List.set_cons_succ]
    refine takeH 9 (some 32) (.bool false) rfl rfl (by kernel_rfl) (by kernel_rfl) (by kernel_rfl) (fun _ _ _ h => h) (Or.inl ⟨by rfl, fun wx ⟨s0, s1, s2, s3⟩ => by go_simp⟩) hS ?_
    simp only [Act.put, List.setIfInBounds_toArray, List.set_cons_zero, List.set_cons_succ]
    refine takeH 10 (some 33) (.bool false) rfl rfl (by kernel_rfl) (by kernel_rfl) (by kernel_rfl) (fun _ _ _ h => h) (Or.inl ⟨by rfl, fun wx ⟨s0, s1, s2, s3⟩ => by go_simp⟩) hS ?_
    simp only [Act.put, List.setIfInBounds_toArray, List.set_cons_zero, List.set_cons_succ]
    refine takeH 11 (some 34) (.bool false) rfl rfl (by kernel_rfl) (by kernel_rfl) (by kernel_rfl) (fun _ _ _ h => h) (Or.inl ⟨by rfl, fun wx ⟨s0, s1, s2, s3⟩ => by go_simp⟩) hS ?_
    simp only [Act.put, List.setIfInBounds_toArray, List.set_cons_zero, List.set_cons_succ]
    refine takeH 12 (some 35) (.agg #[(.slice ra c.length rc), .bool sc]) rfl rfl (by kernel_rfl) (by kernel_rfl) (by kernel_rfl) (fun _ _ _ h => h) (Or.inl ⟨by rfl, fun wx ⟨s0, s1, s2, s3⟩ => by go_simp⟩) hS ?_
    simp only [Act.put, List.setIfInBounds_toArray, List.set_cons_zero, List.set_cons_succ]
    refine takeH 14 (some 37) (.agg #[(.slice ra c.length rc), .bool sc]) rfl rfl (by kernel_rfl) (by kernel_rfl) (by kernel_rfl) (fun _ _ _ h => h) (Or.inl ⟨by rfl, fun wx ⟨s0, s1, s2, s3⟩ => by go_simp⟩) hS ?_
    simp only [Act.put, List.setIfInBounds_toArray, List.set_cons_zero, List.set_cons_succ]
    refine wpAnyH_ready (rs := [13]) (by kernel_rfl) (by simp) (AllReadyH.cons rfl (fun K hK => ?_) AllReadyH.nil)
    go_simp
    go_at_call 11
    refine (h11 _ H4).mono ?_; clear h11; rintro e w5 ⟨r2, c2, rfl, H5, y0, y1, y2, y3⟩
    refine hK.out _ _ ⟨y0, y1, y2, y3⟩ (fun hS => ?_)
    clear hK
    try simp only [Act.put, List.setIfInBounds_toArray, List.set_cons_zero, List.set_cons_succ]
    refine wpAnyH_ready (rs := [15]) (by kernel_rfl) (by simp) (AllReadyH.cons rfl (fun K hK => ?_) AllReadyH.nil)
    go_simp
    go_at_call 13
    refine (h13 _ _ _ H5).mono ?_; clear h13; rintro e w6 ⟨rfl, H6, y0, y1, y2, y3⟩
    refine hK.out _ _ ⟨y0, y1, y2, y3⟩ (fun hS => ?_)
    clear hK
    try simp only [Act.put, List.setIfInBounds_toArray, List.set_cons_zero, List.set_cons_succ]
    refine takeH 16 (some 39) (.bool false) rfl rfl (by kernel_rfl) (by kernel_rfl) (by kernel_rfl) (fun _ _ _ h => h) (Or.inl ⟨by rfl, fun wx ⟨s0, s1, s2, s3⟩ => by go_simp⟩) hS ?_
    simp only [Act.put, List.setIfInBounds_toArray, List.set_cons_zero, List.set_cons_succ]
    refine takeH 17 (some 40) (.bool false) rfl rfl (by kernel_rfl) (by kernel_rfl) (by kernel_rfl) (fun _ _ _ h => h) (Or.inl ⟨by rfl, fun wx ⟨s0, s1, s2, s3⟩ => by go_simp⟩) hS ?_
    simp only [Act.put, List.setIfInBounds_toArray, List.set_cons_zero, List.set_cons_succ]
    refine takeH 18 (some 41) (.bool false) rfl rfl (by kernel_rfl) (by kernel_rfl) (by kernel_rfl) (fun _ _ _ h => h) (Or.inl ⟨by rfl, fun wx ⟨s0, s1, s2, s3⟩ => by go_simp⟩) hS ?_
    simp only [Act.put, List.setIfInBounds_toArray, List.set_cons_zero, List.set_cons_succ]
    refine takeH 19 (some 42) (.pointer (some ⟨w3.heap.size, 0, none⟩)) rfl rfl (by kernel_rfl) (by kernel_rfl) (by kernel_rfl) (fun _ _ _ h => h) (Or.inl ⟨by rfl, fun wx ⟨s0, s1, s2, s3⟩ => by go_simp⟩) hS ?_
    simp only [Act.put, List.setIfInBounds_toArray, List.set_cons_zero, List.set_cons_succ]
    refine takeH 20 (some 43) (.slice ra c.length rc) rfl rfl (by kernel_rfl) (by kernel_rfl) (by kernel_rfl) (fun _ _ _ h => h) (Or.inl ⟨by rfl, fun wx ⟨s0, s1, s2, s3⟩ => by go_simp⟩) hS ?_
    simp only [Act.put, List.setIfInBounds_toArray, List.set_cons_zero, List.set_cons_succ]
    refine takeH 21 (some 44) (.int .i64 c.length) rfl rfl (by kernel_rfl) (by kernel_rfl) (by kernel_rfl) (fun _ _ _ h => h) (Or.inl ⟨by rfl, fun wx ⟨s0, s1, s2, s3⟩ => by go_simp⟩) hS ?_
    simp only [Act.put, List.setIfInBounds_toArray, List.set_cons_zero, List.set_cons_succ]
    refine takeH 22 (some 45) (.bool false) rfl rfl (by kernel_rfl) (by kernel_rfl) (by kernel_rfl) (fun _ _ _ h => h) (Or.inl ⟨by rfl, fun wx ⟨s0, s1, s2, s3⟩ => by go_simp⟩) hS ?_
    simp only [Act.put, List.setIfInBounds_toArray, List.set_cons_zero, List.set_cons_succ]
    refine takeH 23 (some 46) (.bool false) rfl rfl (by kernel_rfl) (by kernel_rfl) (by kernel_rfl) (fun _ _ _ h => h) (Or.inl ⟨by rfl, fun wx ⟨s0, s1, s2, s3⟩ => by go_simp⟩) hS ?_
    simp only [Act.put, List.setIfInBounds_toArray, List.set_cons_zero, List.set_cons_succ]
    refine takeH 24 (some 47) undef rfl rfl (by kernel_rfl) (by kernel_rfl) (by kernel_rfl) (fun _ _ _ h => h) (Or.inr ⟨by rfl, rfl⟩) hS ?_
    simp only [Act.put, List.setIfInBounds_toArray, List.set_cons_zero, List.set_cons_succ]
    refine takeH 25 (some 48) undef rfl rfl (by kernel_rfl) (by kernel_rfl) (by kernel_rfl) (fun _ _ _ h => h) (Or.inr ⟨by rfl, rfl⟩) hS ?_
    simp only [Act.put, List.setIfInBounds_toArray, List.set_cons_zero, List.set_cons_succ]
    refine takeH 26 (some 49) (.bool false) rfl rfl (by kernel_rfl) (by kernel_rfl) (by kernel_rfl) (fun _ _ _ h => h) (Or.inl ⟨by rfl, fun wx ⟨s0, s1, s2, s3⟩ => by go_simp⟩) hS ?_
    simp only [Act.put, List.setIfInBounds_toArray, List.set_cons_zero, List.set_cons_succ]
    refine takeH 27 (some 50) (.bool false) rfl rfl (by kernel_rfl) (by kernel_rfl) (by kernel_rfl) (fun _ _ _ h => h) (Or.inl ⟨by rfl, fun wx ⟨s0, s1, s2, s3⟩ => by go_simp⟩) hS ?_
    simp only [Act.put, List.setIfInBounds_toArray, List.set_cons_zero, List.set_cons_succ]
    refine wpAnyH_done (by kernel_rfl) ?_ _
    clear H4 H5
    obtain ⟨y0, y1, y2, y3⟩ := HX.out _ H6
    have HQ : (dotty p = true ∨ (dotty p = false ∧ p.length = 0)) ∨ (dotty p = false ∧ p.length ≠ 0 ∧ c = p ∧ sc = sl) := by
      rcases Bool.eq_false_or_eq_true (dotty p) with h | h
      · exact Or.inl (Or.inl h)
      · by_cases h2 : p.length = 0
        · exact Or.inl (Or.inr ⟨h, h2⟩)
        · exact Or.inr ⟨h, h2, HD.out h (fun e => h2 (by rw [e]; rfl))⟩
    rcases HQ with (hQ | ⟨hQ, hQ0⟩) | ⟨hQ, hQ0, hQ1⟩
    · rw [hQ] at h12p
      clear hQ h13p
      rcases HCASE with ⟨rfl, rfl, hN⟩ | ⟨rfl, rfl, rfl⟩ | ⟨rfl, rfl, rfl⟩
      all_goals
        go_wp2_with (first
          | (go_at_call 14; refine (h14c _ H8).mono ?_; clear h14c; rintro e w9 ⟨rfl, H9⟩)
          | (go_at_call 14; refine (h14p _ H7b).mono ?_; clear h14p; rintro e w8 ⟨rfl, H8⟩; obtain ⟨u0, u1, u2, u3⟩ := HX.out _ H8)
          | (go_at_call 14; refine (h14p _ H7).mono ?_; clear h14p; rintro e w8 ⟨rfl, H8⟩; obtain ⟨u0, u1, u2, u3⟩ := HX.out _ H8)
          | (go_at_call 13; refine (h13p _ H7 HQ1.out).mono ?_; clear h13p; rintro e w7b ⟨rfl, H7b⟩; obtain ⟨g0, g1, g2, g3⟩ := HX.out _ H7b)
          | (go_at_call 12; refine (h12p _ H6).mono ?_; clear h12p; rintro e w7 ⟨rfl, H7⟩; obtain ⟨z0, z1, z2, z3⟩ := HX.out _ H7))
        go_ret
        first | exact ⟨rfl, H9.out.kp⟩ | exact ⟨rfl, H8.out.kp⟩
    · exact absurd (by omega : c.length = 0) hc0
    · rw [hQ] at h12p
      have hp0 : (0 : Int) < (p.length : Int) := by omega
      have HQ1 := Hid.mk' hQ1
      clear hQ hQ1
      rcases HCASE with ⟨rfl, rfl, hN⟩ | ⟨rfl, rfl, rfl⟩ | ⟨rfl, rfl, rfl⟩
      all_goals
        go_wp2_with (first
          | (go_at_call 14; refine (h14c _ H8).mono ?_; clear h14c; rintro e w9 ⟨rfl, H9⟩)
          | (go_at_call 14; refine (h14p _ H7b).mono ?_; clear h14p; rintro e w8 ⟨rfl, H8⟩; obtain ⟨u0, u1, u2, u3⟩ := HX.out _ H8)
          | (go_at_call 14; refine (h14p _ H7).mono ?_; clear h14p; rintro e w8 ⟨rfl, H8⟩; obtain ⟨u0, u1, u2, u3⟩ := HX.out _ H8)
          | (go_at_call 13; refine (h13p _ H7 HQ1.out).mono ?_; clear h13p; rintro e w7b ⟨rfl, H7b⟩; obtain ⟨g0, g1, g2, g3⟩ := HX.out _ H7b)
          | (go_at_call 12; refine (h12p _ H6).mono ?_; clear h12p; rintro e w7 ⟨rfl, H7⟩; obtain ⟨z0, z1, z2, z3⟩ := HX.out _ H7))
        go_ret
        first | exact ⟨rfl, H9.out.kp⟩ | exact ⟨rfl, H8.out.kp⟩
end Go.Proofs.Ytfekgfimbkgkfab
