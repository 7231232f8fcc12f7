import Derived.Test.YtpgabmfpffaajaaDoorK16
namespace Go.Proofs.YtpgabmfpffaajaaDoor
open Go.RowKit Go.Maps
set_option maxRecDepth 100000

/-! run.State. -/
theorem jn_of_id (l : List ByteArray) : (jnB l 32).size + 2 = (idB l).size := by
  unfold idB
  rw [ByteArray.size_append, show (⟨#[32, 32]⟩ : ByteArray).size = 2 from rfl]
  omega
theorem sh_size {t : Sta} (h : StaIn t) : (jnB (shW t) 32).size ≤ 2000000000 := by
  have h1 := jn_of_id (shW t)
  have h2 := hdB_size h
  rw [← idB_sh, ByteArray.size_append] at h2
  omega
theorem nod_size {d : Nd} (h : NdIn d) : (jnB (nodW d) 32).size ≤ 2000000000 := by
  have h1 := jn_of_id (nodW d)
  rw [idB_nod] at h1
  have h2 := nodB_size h
  have h3 := h.wt
  unfold nwt at h2
  omega
theorem fr_size {t : Sta} (h : StaIn t) : (jnB (frW t) 32).size ≤ 2000000000 := by
  have h1 := jn_of_id (frW t)
  rw [idB_fr, ByteArray.size_append, show (⟨#[32, 32, 102, 114, 101, 101]⟩ : ByteArray).size = 6 from rfl] at h1
  have h2 := cat_le spB 80 t.fr (fun a ha => spB_size (h.fr a ha))
  have h3 := h.wt
  omega
theorem sta_size {t : Sta} (h : StaIn t) : (staB t).size ≤ 2000000000 := by
  unfold staB
  have h1 := hdB_size h
  have h2 := cat_le spB 80 t.fr (fun a ha => spB_size (h.fr a ha))
  have h3 := nls_size h.nd
  have h4 := h.wt
  simp only [ByteArray.size_append, show (⟨#[32, 32, 102, 114, 101, 101]⟩ : ByteArray).size = 6 from rfl]
  omega
theorem nodW_len {d : Nd} (h : NdIn d) : 0 < (nodW d).length ∧ (nodW d).length ≤ 10000000 := by
  have h1 := tit_len ⟨#[108, 111, 103]⟩ (d.lg.map iB)
  have h2 := tit_len ⟨#[109, 97, 112]⟩ (d.mp.flatMap rwB)
  have h3 := tit_len ⟨#[110, 97, 109, 101, 115]⟩ (d.nm.flatMap dwB)
  rw [flatB_len rwB 1 (fun _ => rfl)] at h2
  rw [flatB_len dwB 2 (fun _ => rfl)] at h3
  rw [List.length_map] at h1
  have h4 := h.wt
  have h5 := dwt_len d.nm
  have h6 : (nw1 d).length = 12 := rfl
  unfold nodW kw
  simp only [List.length_append, h6]
  constructor
  · omega
  · split
    · omega
    · split
      · omega
      · simp only [List.length_nil]; omega
set_option maxHeartbeats 16000000 in
theorem state_any (w : World) (hv : Tab w) (t : Sta) (vn vf : Value) (hr : StaAt w t vn vf) (hi : StaIn t) :
    Calls Tryd.prog 5 #[.agg (tcell t vn vf)] w fun e w' => e = .returned (.string (staB t)) ∧ Keeps (fun _ => False) w w' := by
  obtain ⟨pn, cn, rfl, hcn, _⟩ := id hr.nd
  obtain ⟨pf, cf, rfl, hcf, _⟩ := id hr.fr
  have HR := Hid.mk' hr
  have HT := Hid.mk' hv
  have HI := Hid.mk' hi
  obtain ⟨W0, hW0, HK0, HB0⟩ : ∃ W0, w.alloc (.cells (tcell t (.slice pn t.nd.length cn) (.slice pf t.fr.length cf)) 27) = W0 ∧ Hid (Keeps (fun _ => False) w W0) ∧ Hid (W0.heap[w.heap.size]? = some (.cells (tcell t (.slice pn t.nd.length cn) (.slice pf t.fr.length cf)) 27)) := ⟨_, rfl, (Keeps.refl _ w).alloc _, heap_last w _⟩
  have HC : Hid (∀ (W : World), Keeps (fun _ => False) W0 W → ∀ (j : Nat) (u : Value), (tcell t (.slice pn t.nd.length cn) (.slice pf t.fr.length cf))[j]? = some u → W.cell? ⟨w.heap.size, j, none⟩ = some u) := by
    intro W k j u hj
    simp only [World.cell?, k.at HB0.out id]
    exact hj
  clear hr hv
  have hjs := sh_size hi
  have hwt := hi.wt
  have hln := twt_len t.nd
  have c0 := HC.out W0 (Keeps.refl _ _) 0 _ rfl
  have c1 := HC.out W0 (Keeps.refl _ _) 1 _ rfl
  have c2 := HC.out W0 (Keeps.refl _ _) 2 _ rfl
  go_enter Tryd.func5, Tryd.ntmps5
  go_upto_region 1 with (fail)
  try rw [hW0]
  clear hW0
  have HKK0 := Hid.mk' (Keeps.drewN (fun _ => False) W0 1)
  refine wp_region_held_drew (S := fun wx => wx.cell? ⟨w.heap.size, 0, none⟩ = some (.int .i64 t.pg) ∧ wx.cell? ⟨w.heap.size, 1, none⟩ = some (.int .i64 t.is) ∧ wx.cell? ⟨w.heap.size, 2, none⟩ = some (.int .i64 t.co)) (by kernel_rfl) ⟨c0, c1, c2⟩ (fun hS => ?_)
  refine takeH 0 (some 6) (.pointer (some ⟨w.heap.size, 0, none⟩)) rfl rfl (by kernel_rfl) (by kernel_rfl) (by kernel_rfl) (fun _ _ _ h => h) (Or.inl ⟨by rfl, fun wx _ => by go_simp⟩) hS ?_
  try simp only [Act.put, List.setIfInBounds_toArray, List.set_cons_zero, List.set_cons_succ]
  refine takeH 1 (some 7) (.pointer (some ⟨w.heap.size, 0, none⟩)) rfl rfl (by kernel_rfl) (by kernel_rfl) (by kernel_rfl) (fun _ _ _ h => h) (Or.inl ⟨by rfl, fun wx _ => by go_simp⟩) hS ?_
  try simp only [Act.put, List.setIfInBounds_toArray, List.set_cons_zero, List.set_cons_succ]
  refine takeH 2 (some 8) (.int .i64 t.pg) rfl rfl (by kernel_rfl) (by kernel_rfl) (by kernel_rfl) (fun _ _ _ h => h) (Or.inl ⟨by rfl, fun wx ⟨s0, _, _⟩ => by go_simp⟩) hS ?_
  try simp only [Act.put, List.setIfInBounds_toArray, List.set_cons_zero, List.set_cons_succ]
  refine takeH 4 (some 10) (.pointer (some ⟨w.heap.size, 0, none⟩)) rfl rfl (by kernel_rfl) (by kernel_rfl) (by kernel_rfl) (fun _ _ _ h => h) (Or.inl ⟨by rfl, fun wx _ => by go_simp⟩) hS ?_
  try simp only [Act.put, List.setIfInBounds_toArray, List.set_cons_zero, List.set_cons_succ]
  refine takeH 5 (some 11) (.pointer (some ⟨w.heap.size, 1, none⟩)) rfl rfl (by kernel_rfl) (by kernel_rfl) (by kernel_rfl) (fun _ _ _ h => h) (Or.inl ⟨by rfl, fun wx _ => by go_simp⟩) hS ?_
  try simp only [Act.put, List.setIfInBounds_toArray, List.set_cons_zero, List.set_cons_succ]
  refine takeH 6 (some 12) (.int .i64 t.is) rfl rfl (by kernel_rfl) (by kernel_rfl) (by kernel_rfl) (fun _ _ _ h => h) (Or.inl ⟨by rfl, fun wx ⟨_, s0, _⟩ => by go_simp⟩) hS ?_
  try simp only [Act.put, List.setIfInBounds_toArray, List.set_cons_zero, List.set_cons_succ]
  refine takeH 8 (some 14) (.pointer (some ⟨w.heap.size, 0, none⟩)) rfl rfl (by kernel_rfl) (by kernel_rfl) (by kernel_rfl) (fun _ _ _ h => h) (Or.inl ⟨by rfl, fun wx _ => by go_simp⟩) hS ?_
  try simp only [Act.put, List.setIfInBounds_toArray, List.set_cons_zero, List.set_cons_succ]
  refine takeH 9 (some 15) (.pointer (some ⟨w.heap.size, 2, none⟩)) rfl rfl (by kernel_rfl) (by kernel_rfl) (by kernel_rfl) (fun _ _ _ h => h) (Or.inl ⟨by rfl, fun wx _ => by go_simp⟩) hS ?_
  try simp only [Act.put, List.setIfInBounds_toArray, List.set_cons_zero, List.set_cons_succ]
  refine takeH 10 (some 16) (.int .i64 t.co) rfl rfl (by kernel_rfl) (by kernel_rfl) (by kernel_rfl) (fun _ _ _ h => h) (Or.inl ⟨by rfl, fun wx ⟨_, _, s0⟩ => by go_simp⟩) hS ?_
  try simp only [Act.put, List.setIfInBounds_toArray, List.set_cons_zero, List.set_cons_succ]
  refine wpAnyH_ready (rs := [3]) (by kernel_rfl) (by simp) (AllReadyH.cons rfl (fun K hK => ?_) AllReadyH.nil)
  go_simp
  go_at_call 10
  refine (number_any _ (HT.out.keep (HK0.out.trans HKK0.out)) t.pg HI.out.pg).mono ?_
  rintro e wk0 ⟨rfl, hk8⟩
  have HKK1 := Hid.mk' (HKK0.out.trans hk8)
  refine hK.out _ _ (⟨hk8.cell hS.1 id, hk8.cell hS.2.1 id, hk8.cell hS.2.2 id⟩) (fun hS => ?_)
  clear hK hk8
  try simp only [Act.put, List.setIfInBounds_toArray, List.set_cons_zero, List.set_cons_succ]
  refine wpAnyH_ready (rs := [7]) (by kernel_rfl) (by simp) (AllReadyH.cons rfl (fun K hK => ?_) AllReadyH.nil)
  go_simp
  go_at_call 10
  refine (number_any _ (HT.out.keep (HK0.out.trans HKK1.out)) t.is HI.out.is).mono ?_
  rintro e wk1 ⟨rfl, hk8⟩
  have HKK2 := Hid.mk' (HKK1.out.trans hk8)
  refine hK.out _ _ (⟨hk8.cell hS.1 id, hk8.cell hS.2.1 id, hk8.cell hS.2.2 id⟩) (fun hS => ?_)
  clear hK hk8
  try simp only [Act.put, List.setIfInBounds_toArray, List.set_cons_zero, List.set_cons_succ]
  refine wpAnyH_ready (rs := [11]) (by kernel_rfl) (by simp) (AllReadyH.cons rfl (fun K hK => ?_) AllReadyH.nil)
  go_simp
  go_at_call 10
  refine (number_any _ (HT.out.keep (HK0.out.trans HKK2.out)) t.co HI.out.co).mono ?_
  rintro e wk2 ⟨rfl, hk8⟩
  have HKK3 := Hid.mk' (HKK2.out.trans hk8)
  refine hK.out _ _ (⟨hk8.cell hS.1 id, hk8.cell hS.2.1 id, hk8.cell hS.2.2 id⟩) (fun hS => ?_)
  clear hK hk8
  try simp only [Act.put, List.setIfInBounds_toArray, List.set_cons_zero, List.set_cons_succ]
  refine wpAnyH_ready (rs := [12]) (by kernel_rfl) (by simp) (AllReadyH.cons rfl (fun K hK => ?_) AllReadyH.nil)
  rw [if_pos (by rfl)]
  refine wp_bs4 _ _ _ _ rfl ((⟨#[115, 104, 97, 112, 101]⟩ : ByteArray)) ((iB t.pg)) ((iB t.is)) ((iB t.co)) (by rfl) (by rfl) (by rfl) (by rfl) ?_
  have HSB3 := Hid.mk' (sr_new wk2 [(⟨#[115, 104, 97, 112, 101]⟩ : ByteArray), (iB t.pg), (iB t.is), (iB t.co)])
  have ka := (Keeps.refl (fun _ => False) wk2).alloc (.cells (strs [(⟨#[115, 104, 97, 112, 101]⟩ : ByteArray), (iB t.pg), (iB t.is), (iB t.co)]).toArray 9)
  have HKK4 := Hid.mk' (HKK3.out.trans ka)
  refine hK.out _ _ (⟨ka.cell hS.1 id, ka.cell hS.2.1 id, ka.cell hS.2.2 id⟩) (fun hS => ?_)
  clear hK ka
  try simp only [Act.put, List.setIfInBounds_toArray]
  refine wpAnyH_ready (rs := [13]) (by kernel_rfl) (by simp) (AllReadyH.cons rfl (fun K hK => ?_) AllReadyH.nil)
  go_simp
  go_at_call 9
  refine (indented_any _ _ (shW t) (Row.of_own HSB3.out.1) (by simp [shW]) (by simp [shW]) hjs).mono ?_
  rintro e wk4 ⟨rfl, hk8⟩
  have HKK5 := Hid.mk' (HKK4.out.trans hk8)
  refine hK.out _ _ (⟨hk8.cell hS.1 id, hk8.cell hS.2.1 id, hk8.cell hS.2.2 id⟩) (fun hS => ?_)
  clear hK hk8
  try simp only [Act.put, List.setIfInBounds_toArray, List.set_cons_zero, List.set_cons_succ]
  refine wpAnyH_ready (rs := [14]) (by kernel_rfl) (by simp) (AllReadyH.cons rfl (fun K hK => ?_) AllReadyH.nil)
  rw [if_pos (by rfl)]
  refine wp_bs1 _ rfl ((idB (shW t))) (by rfl) ?_
  have HSB5 := Hid.mk' (sr_new wk4 [(idB (shW t))])
  have ka := (Keeps.refl (fun _ => False) wk4).alloc (.cells (strs [(idB (shW t))]).toArray 9)
  have HKK6 := Hid.mk' (HKK5.out.trans ka)
  refine hK.out _ _ (⟨ka.cell hS.1 id, ka.cell hS.2.1 id, ka.cell hS.2.2 id⟩) (fun hS => ?_)
  clear hK ka
  try simp only [Act.put, List.setIfInBounds_toArray]
  refine takeH 15 (some 3) (.slice (some ⟨wk4.heap.size, 0, none⟩) 1 1) rfl rfl (by kernel_rfl) (by kernel_rfl) (by kernel_rfl) (fun _ _ _ h => h) (Or.inl ⟨by rfl, fun wx _ => by go_simp⟩) hS ?_
  try simp only [Act.put]
  refine wpAnyH_done (by kernel_rfl) ?_ _
  clear hS
  have HS1 : Hid (SR W0 (wk4.alloc (.cells (strs [(idB (shW t))]).toArray 9)) (.slice (some ⟨wk4.heap.size, 0, none⟩) 1 1) [idB (shW t)]) := HSB5.out.base HKK5.out
  clear c0 c1 c2
  obtain ⟨W1, hW1⟩ : ∃ W1, (wk4.alloc (.cells (strs [(idB (shW t))]).toArray 9)) = W1 := ⟨_, rfl⟩
  obtain ⟨G1, hG1⟩ : ∃ G1, wk4.heap.size = G1 := ⟨_, rfl⟩
  rw [hW1, hG1] at HS1
  rw [hW1, hG1]
  clear hW1 hG1 HKK0 HKK1 HKK2 HKK3 HKK4 HKK5 HKK6 HSB3 HSB5
  have f4 : W1.cell? ⟨w.heap.size, 4, none⟩ = some (.slice pn t.nd.length cn) := HC.out W1 HS1.out.2 4 _ rfl
  go_wp2
  go_loopw [3, 24] (fun s i wr => ∃ k : Nat, k ≤ t.nd.length ∧ i = .int .i64 k ∧ Hid (SR W0 wr s ([idB (shW t)] ++ (t.nd.take k).map nlL))) (fun _ i _ => t.nd.length - (intOf i).toNat)
  case atStart => exact ⟨0, Nat.zero_le _, rfl, HS1.out⟩
  case round =>
    obtain ⟨k, hk, rfl, HSRw⟩ := hrel
    clear f4 HS1
    by_cases h1 : k < t.nd.length
    · have h1' : (k : Int) < (t.nd.length : Int) := by omega
      obtain ⟨⟨d, vm, vn, vl⟩, hd⟩ : ∃ n, t.nd[k]? = some n := ⟨t.nd[k], by simp [h1]⟩
      obtain ⟨b, o, c', e, _, hcell⟩ := ((HR.out.keep HK0.out).keep HSRw.out.2).nd.gets n10 10 (fun _ => rfl) hd
      injection e with e1 _ e3
      subst e1 e3
      have hat := ((HR.out.keep HK0.out).keep HSRw.out.2).ins _ (List.mem_of_getElem? hd)
      dsimp only at hat
      obtain ⟨pm, cm, hvm, _, _⟩ := id hat.mp
      obtain ⟨pq, cq, hvn, _, _⟩ := id hat.nm
      obtain ⟨pl, cl, hvl, _, _⟩ := id hat.lg
      subst hvm hvn hvl
      have HRG : Hid (wr.rangeAt b (o + k * 10) (ncell d (.slice pm d.mp.length cm) (.slice pq d.nm.length cq) (.slice pl d.lg.length cl)).toList) := fun j u hj => hcell j u hj
      have HND := Hid.mk' (hi.nd _ (List.mem_of_getElem? hd))
      have HTK := Hid.mk' (take_map nlL hd)
      have HLN : Hid (([idB (shW t)] ++ (t.nd.take k).map nlL).length ≤ 2000000) := by show _ ≤ _; simp; omega
      obtain ⟨WQ, hWQ, HKQ0, HBQ⟩ : ∃ WQ, wr.alloc (.cells (ncell d (.slice pm d.mp.length cm) (.slice pq d.nm.length cq) (.slice pl d.lg.length cl)) 36) = WQ ∧ Hid (Keeps (fun _ => False) wr WQ) ∧ Hid (WQ.heap[wr.heap.size]? = some (.cells (ncell d (.slice pm d.mp.length cm) (.slice pq d.nm.length cq) (.slice pl d.lg.length cl)) 36)) := ⟨_, rfl, (Keeps.refl _ wr).alloc _, heap_last wr _⟩
      have h11 := nodeWords_any WQ (HT.out.keep ((HK0.out.trans HSRw.out.2).trans HKQ0.out)) d _ _ _ (hat.keep HKQ0.out) HND.out
      have HWQ := Hid.mk' hWQ
      have HNW := Hid.mk' (nodW_len HND.out)
      have HNS := Hid.mk' (nod_size HND.out)
      have HNL : Hid (nlL (d, .slice pm d.mp.length cm, .slice pq d.nm.length cq, .slice pl d.lg.length cl) = idB (nodW d)) := rfl
      rw [HNL.out] at HTK
      clear hcell hd hWQ hat
      generalize nodW d = ND at h11 HNW HNS HTK
      have S0 := Hid.mk' True.intro
      go_wp2_with (first
        | (clear S0; refine wpList_load_mid rfl 36 _ rfl b (o + k * 10) (by rfl) (ncell d (.slice pm d.mp.length cm) (.slice pq d.nm.length cq) (.slice pl d.lg.length cl)).toList _ HRG.out Tryd.underlying36 rfl size_nd ?_; have S1 := Hid.mk' True.intro)
        | (clear S1; refine wpList_alloc_nd rfl rfl ?_; have S2 := Hid.mk' True.intro)
        | (clear S2; refine wpList_store_nd rfl _ _ rfl (ncell d (.slice pm d.mp.length cm) (.slice pq d.nm.length cq) (.slice pl d.lg.length cl)) rfl (by simp [ncell, Value.oneCell']) (by rfl) (by rfl) ?_; rw [HWQ.out]; have S3 := Hid.mk' True.intro)
        | (clear S3; refine wpList_load_row rfl 36 (.tmp 5) rfl wr.heap.size (by rfl) 36 (ncell d (.slice pm d.mp.length cm) (.slice pq d.nm.length cq) (.slice pl d.lg.length cl)) (0, 0) _ HBQ.out Tryd.underlying36 rfl size_nd ?_; have S4 := Hid.mk' True.intro)
        | (clear S4; go_at_call 11; refine h11.mono ?_; clear h11; rintro e w5 ⟨v5, rfl, h5⟩; obtain ⟨p5, d5, hv5, _, _⟩ := id (Row.of_own h5.out.1); subst hv5; have H5 := Hid.mk' h5.out; clear h5; have S5 := Hid.mk' True.intro)
        | (clear S5; go_at_call 9; refine (indented_any w5 (.slice p5 ND.length d5) ND (Row.of_own H5.out.1) HNW.out.1 HNW.out.2 HNS.out).mono ?_; rintro e w6 ⟨rfl, hk6⟩; have HK6 := Hid.mk' hk6; clear hk6; have S6 := Hid.mk' True.intro)
        | (clear S6; at_builtin; go_must (refine wpList_apps rfl _ _ rfl W0 w6 u3 _ (by rfl) (HSRw.out.keep ((HKQ0.out.trans H5.out.2).trans HK6.out)) (idB ND) (by rfl) (by have h : ([idB (shW t)] ++ (t.nd.take k).map nlL).length ≤ 2000000 := HLN.out; omega) ?_); intro v2 W2 hO; have HO2 := Hid.mk' hO; clear hO; have S7 := Hid.mk' True.intro))
      go_roundw
      case rel => exact ⟨k + 1, by omega, by go_num, by rw [HTK.out, ← List.append_assoc]; exact HO2.out⟩
      case measure => simp [intOf]; omega
    · have h1' : ¬ (k : Int) < (t.nd.length : Int) := by omega
      have HE : Hid ([idB (shW t)] ++ (t.nd.take k).map nlL = [idB (shW t)] ++ t.nd.map nlL) := by show _ = _; rw [List.take_of_length_le (by omega)]
      have HS2 : Hid (SR W0 wr u3 ([idB (shW t)] ++ t.nd.map nlL)) := by rw [← HE.out]; exact HSRw.out
      have f5 : wr.cell? ⟨w.heap.size, 5, none⟩ = some (.slice pf t.fr.length cf) := HC.out wr HSRw.out.2 5 _ rfl
      have h13 := freeWords_any wr (HT.out.keep (HK0.out.trans HSRw.out.2)) (.slice pf t.fr.length cf) t.fr ((HR.out.keep HK0.out).keep HSRw.out.2).fr (by omega) hi.fr
      have HFW : Hid (frW t = [(⟨#[102, 114, 101, 101]⟩ : ByteArray)] ++ t.fr.flatMap swB) := rfl
      have HFL : Hid (0 < (frW t).length ∧ (frW t).length ≤ 10000000) := by
        show 0 < _ ∧ _ ≤ _
        rw [HFW.out, List.length_append, flatB_len swB 1 (fun _ => rfl)]
        simp only [List.length_cons, List.length_nil]
        omega
      have HFS := Hid.mk' (fr_size hi)
      have HLS : Hid (jnB (([idB (shW t)] ++ t.nd.map nlL) ++ [idB (frW t)]) 10 = staB t) := lines_sta t
      have HSS := Hid.mk' (sta_size hi)
      have HLL : Hid (([idB (shW t)] ++ t.nd.map nlL).length ≤ 2000000) := by show _ ≤ _; simp; omega
      rw [← HFW.out] at h13
      generalize frW t = FW at h13 HFL HFS HLS
      generalize [idB (shW t)] ++ t.nd.map nlL = L1 at HS2 HLS HLL
      obtain ⟨SB, HSB⟩ : ∃ x, Hid (staB t = x) := ⟨_, rfl⟩
      have HLS : Hid (jnB (L1 ++ [idB FW]) 10 = SB) := HLS.out.trans HSB.out
      have HSS : Hid (SB.size ≤ 2000000000) := HSB.out ▸ HSS
      clear HE HSRw HFW
      have S0 := Hid.mk' True.intro
      go_wp2_with (first
        | (clear S0; go_at_call 13; refine h13.mono ?_; clear h13; rintro e w5 ⟨v5, rfl, h5⟩; obtain ⟨p5, d5, hv5, _, _⟩ := id (Row.of_own h5.out.1); subst hv5; have H5 := Hid.mk' h5.out; clear h5; have S5 := Hid.mk' True.intro)
        | (clear S5; go_at_call 9; refine (indented_any w5 (.slice p5 FW.length d5) FW (Row.of_own H5.out.1) HFL.out.1 HFL.out.2 HFS.out).mono ?_; rintro e w6 ⟨rfl, hk6⟩; have HK6 := Hid.mk' hk6; clear hk6; have S6 := Hid.mk' True.intro)
        | (clear S6; at_builtin; go_must (refine wpList_apps rfl _ _ rfl W0 w6 u3 _ (by rfl) (HS2.out.keep (H5.out.2.trans HK6.out)) (idB FW) (by rfl) (by have h : L1.length ≤ 2000000 := HLL.out; omega) ?_); intro v2 W2 hO; obtain ⟨p2, d2, hv2, _, _⟩ := id (Row.of_own hO.1); subst hv2; have HO2 := Hid.mk' hO; clear hO; have S7 := Hid.mk' True.intro)
        | (clear S7; go_at_call 12; have hI := inLines_any W2 _ (L1 ++ [idB FW]) (Row.of_own HO2.out.1) (by simp) (by have h : L1.length ≤ 2000000 := HLL.out; simp; omega) (by rw [HLS.out]; exact HSS.out); simp only [List.length_append, List.length_cons, List.length_nil, Nat.zero_add] at hI; refine hI.mono ?_; clear hI; rintro e w8 ⟨rfl, hk8⟩; have HK8 := Hid.mk' hk8; clear hk8; rw [HLS.out]; have S8 := Hid.mk' True.intro))
      go_ret
      exact ⟨by rw [HSB.out]; rfl, (HK0.out.trans HO2.out.2).trans HK8.out⟩
end Go.Proofs.YtpgabmfpffaajaaDoor
