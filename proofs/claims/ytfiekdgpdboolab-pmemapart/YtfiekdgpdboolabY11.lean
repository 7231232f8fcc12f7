import Derived.Test.YtfiekdgpdboolabY10
namespace Go.Proofs.Ytfiekdgpdboolab
open Go.RowKit Go.Maps

/-- What was new may have turned. -/
theorem keeps_new {X : Nat → Prop} {w w' : World} (h : Keeps X w w') (hx : ∀ k, X k → w.heap.size ≤ k) : Keeps (fun _ => False) w w' := h.mono fun k hk hX => by have := hx k hX; omega

theorem keeps_on {X : Nat → Prop} {a b c : World} (h : Keeps (fun _ => False) a b) (k : Keeps X b c) (hx : ∀ i, X i → a.heap.size ≤ i) : Keeps (fun _ => False) a c :=
  keeps_new (X := X) ((h.mono (fun _ _ h => h.elim)).trans k) hx

set_option maxHeartbeats 2000000 in
set_option maxRecDepth 20000 in
/-- lentIn: what is handed in stays as it was. -/
theorem lentIn_any (w : World) (g1 c1 g2 c2 n : Nat) (bs ws : List Int) (pc : Option Addr) (cc : Nat) (cs : List Int) (hb1 : bs.length = n) (hb2 : ws.length = n) (h1 : 512 ≤ n) (h2 : n ≤ 524288) (h3 : n % 512 = 0)
    (hv1 : ∀ b ∈ bs, 0 ≤ b ∧ b ≤ 255) (hv2 : ∀ b ∈ ws, 0 ≤ b ∧ b ≤ 255)
    (hc1 : ∀ i, i < n → w.cell? ⟨g1, i, none⟩ = some (.int .u8 (bs.getD i 0))) (hc2 : ∀ i, i < n → w.cell? ⟨g2, i, none⟩ = some (.int .u8 (ws.getD i 0)))
    (hcl : cs.length ≤ 17592186043904) (hpc : 0 < cs.length → ∃ cb co, pc = some ⟨cb, co, none⟩ ∧ cb < w.heap.size ∧ ∀ i, i < cs.length → w.cell? ⟨cb, co + i, none⟩ = some (.int .i64 (cs.getD i 0))) :
    Calls Try.prog 30 #[.slice (some ⟨g1, 0, none⟩) n c1, .slice (some ⟨g2, 0, none⟩) n c2, .slice pc cs.length cc] w fun e w' => e = .returned (.bool true) ∧ Keeps (fun _ => False) w w' := by
  have HR1 : Hid (∀ wx, Keeps (fun _ => False) w wx → Calls Try.prog 51 #[.slice (some ⟨g1, 0, none⟩) n c1] wx fun e w' => ∃ g' c', e = .returned (.slice (some ⟨g', 0, none⟩) (n + 24 : Nat) c') ∧ n + 24 ≤ c' ∧ wx.heap.size ≤ g' ∧ g' < w'.heap.size ∧
      (∀ i, i < n + 24 → w'.cell? ⟨g', i, none⟩ = some (.int .u8 ((bs ++ extra 24).getD i 0))) ∧ Keeps (fun _ => False) wx w') := fun wx hk => roomy_any wx g1 n c1 bs hb1 (by omega) (by omega) (fun i hi => hk.cell (hc1 i hi) (by simp))
  have HR2 : Hid (∀ wx, Keeps (fun _ => False) w wx → Calls Try.prog 51 #[.slice (some ⟨g2, 0, none⟩) n c2] wx fun e w' => ∃ g' c', e = .returned (.slice (some ⟨g', 0, none⟩) (n + 24 : Nat) c') ∧ n + 24 ≤ c' ∧ wx.heap.size ≤ g' ∧ g' < w'.heap.size ∧
      (∀ i, i < n + 24 → w'.cell? ⟨g', i, none⟩ = some (.int .u8 ((ws ++ extra 24).getD i 0))) ∧ Keeps (fun _ => False) wx w') := fun wx hk => roomy_any wx g2 n c2 ws hb2 (by omega) (by omega) (fun i hi => hk.cell (hc2 i hi) (by simp))
  obtain ⟨i0, hi, hz0, hz1, hz2⟩ := info_parts info3
  obtain ⟨N, hN⟩ : ∃ N, N = cs.length := ⟨_, rfl⟩
  have HPC := Hid.mk' (show N = cs.length ∧ (0 < N → ∃ cb co, pc = some ⟨cb, co, none⟩ ∧ cb < w.heap.size ∧ ∀ i, i < N → w.cell? ⟨cb, co + i, none⟩ = some (.int .i64 (cs.getD i 0))) from ⟨hN, by rw [hN]; exact hpc⟩)
  have HB := Hid.mk' (show bs.length = n ∧ ws.length = n ∧ (∀ b ∈ bs, 0 ≤ b ∧ b ≤ 255) ∧ (∀ b ∈ ws, 0 ≤ b ∧ b ≤ 255) from ⟨hb1, hb2, hv1, hv2⟩)
  have hil : (i64s cs).length = N := by simp [i64s, hN]
  have hone : ∀ u ∈ i64s cs, u.oneCell' = true := fun u hu => by simp only [i64s, List.mem_map] at hu; obtain ⟨_, _, rfl⟩ := hu; rfl
  have HSRC : Hid (∀ wx, Keeps (fun _ => False) w wx → 0 < N → ∃ ad, pc = some ad ∧ ∀ j u, (i64s cs)[j]? = some u → wx.cell? (ad.add j) = some u) := fun wx hk h0 => by
    obtain ⟨cb, co, rfl, _, hc⟩ := HPC.out.2 h0
    refine ⟨_, rfl, fun j u hj => ?_⟩
    have hjl : j < N := by have := (List.getElem?_eq_some_iff.1 hj).1; omega
    have hadd : (⟨cb, co, none⟩ : Addr).add j = ⟨cb, co + j, none⟩ := by
      unfold Addr.add
      split
      · rename_i h; rw [h]; rfl
      · rfl
    rw [hadd]
    refine hk.cell ?_ (by simp)
    rw [hc j hjl, ← hj]
    have : j < cs.length := by omega
    simp [i64s, List.getD_eq_getElem?_getD, this]
  rw [← hN] at hcl
  rw [← hN]
  have HONE := Hid.mk' hone
  have HIL := Hid.mk' hil
  clear hb1 hb2 hv1 hv2 hc1 hc2 hpc hN hone hil
  go_enter Try.func30, Try.ntmps30
  go_upto_region 4 with (first
    | (go_at_call 51; refine (HR2.out _ K1.out).mono ?_; rintro e w2 ⟨gb, cb, rfl, hb1, hb2, hb3, hb4, hb5⟩; have K2 := Hid.mk' (K1.out.trans hb5); have HBB := Hid.mk' (show w1.heap.size ≤ gb ∧ gb < w2.heap.size ∧ (∀ i, i < n + 24 → w2.cell? ⟨gb, i, none⟩ = some (.int .u8 ((ws ++ extra 24).getD i 0))) from ⟨hb2, hb3, hb4⟩); have HAA2 := Hid.mk' (fun i hi => hb5.cell (HAA.out i hi) (by simp)); clear hb2 hb3 hb4 hb5)
    | (go_at_call 51; refine (HR1.out _ (Keeps.refl _ _)).mono ?_; rintro e w1 ⟨ga, ca, rfl, ha1, ha2, ha3, ha4, ha5⟩; have K1 := Hid.mk' ha5; have HAA := Hid.mk' ha4; have HA3 := Hid.mk' ha3; clear ha2 ha3 ha4 ha5))
  have hone1 := HONE.out
  go_upto_region 6 with (first
    | (at_builtin; (refine wpList_append_lies _ rfl _ _ 43 rfl w2.heap.size 3 i0 (.int .i64 0) 1 8 Try.underlying43 hi hz0 hz1 hz2 rfl (by decide) v3 N (i64s cs) rfl (hrow3.alloc _) ⟨w3.heap.size, 0, none⟩ 3 3 [.int .i64 71, .int .i64 72, .int .i64 73] rfl rfl (news3 w3 _ _ _ 3 _ rfl) (by simp [Value.oneCell']) (by decide) (by unfold maxLen; omega) (by omega) (by have := hg3.size; simp; omega) (w3.heap.size + 1) (by simp) ?_); intro gc c4 w4 hrow4 hg4 hloc4 hlt4)
    | (at_builtin; (refine wpList_append_copy _ rfl _ _ 43 rfl 3 i0 (.int .i64 0) 8 Try.underlying43 hi hz0 hz1 hz2 rfl rfl pc N cc (i64s cs) rfl HIL.out (HSRC.out _ K2.out) hone1 (by unfold maxLen; omega) (by omega) ?_); intro v3 w3 hrow3 hg3))
  have K24 : Keeps (fun _ => False) w2 w4 := (((Keeps.refl _ w2).step hg3 (by simp)).step (World.grownBy_alloc w3 _ none) (by simp)).step hg4 (fun i hi => Or.inr (hrow3.lt i hi).1)
  have hc4 : N + 3 ≤ c4 := by
    rcases hrow4.2 with ⟨e1, _⟩ | ⟨_, _, _, e1, _, _, q, _⟩
    · cases e1
    · cases e1; exact q
  have HF4 : Hid (∀ wx, Keeps (fun _ => False) w4 wx → (∀ i, i < n + 24 → wx.cell? ⟨ga, i, none⟩ = some (.int .u8 ((bs ++ extra 24).getD i 0))) ∧ (∀ i, i < n + 24 → wx.cell? ⟨gb, i, none⟩ = some (.int .u8 ((ws ++ extra 24).getD i 0))) ∧ (∀ i, i < N → wx.cell? ⟨gc, i, none⟩ = some (.int .i64 (cs.getD i 0))) ∧
      wx.cell? ⟨gc, N, none⟩ = some (.int .i64 71) ∧ wx.cell? ⟨gc, N + 1, none⟩ = some (.int .i64 72) ∧ wx.cell? ⟨gc, N + 2, none⟩ = some (.int .i64 73) ∧ Keeps (fun _ => False) w wx ∧ (∀ i, i < N → ∃ cb co, pc = some ⟨cb, co, none⟩ ∧ wx.cell? ⟨cb, co + i, none⟩ = some (.int .i64 (cs.getD i 0)))) := fun wx hk => by
    have hlen := HIL.out
    have k0 : Keeps (fun _ => False) w wx := (K2.out.trans K24).trans hk
    have hget : ∀ i u, i < N + 3 → (i64s cs ++ [.int .i64 71, .int .i64 72, .int .i64 73])[i]? = some u → wx.cell? ⟨gc, i, none⟩ = some u := fun i u hi hu => hk.cell ((hrow4.cellAt i (by omega)).trans hu) (by simp)
    refine ⟨fun i hi => (K24.trans hk).cell (HAA2.out i hi) (by simp), fun i hi => (K24.trans hk).cell (HBB.out.2.2 i hi) (by simp), fun i hi => hget i _ (by omega) ?_, hget _ _ (by omega) ?_, hget _ _ (by omega) ?_, hget _ _ (by omega) ?_, k0, fun i hi => ?_⟩
    · rw [List.getElem?_append_left (by omega)]
      have : i < cs.length := by rw [← HPC.out.1]; exact hi
      simp [i64s, List.getD_eq_getElem?_getD, this]
    · rw [List.getElem?_append_right (by omega), hlen]; simp
    · rw [List.getElem?_append_right (by omega), hlen, show N + 1 - N = 1 by omega]; rfl
    · rw [List.getElem?_append_right (by omega), hlen, show N + 2 - N = 2 by omega]; rfl
    · obtain ⟨cb', co, e1, _, e2⟩ := HPC.out.2 (by omega)
      exact ⟨cb', co, e1, k0.cell (e2 i hi) (by simp)⟩
  have hlo : Hid (∀ wx, Keeps (fun _ => False) w4 wx → Calls Try.prog 52 #[.slice (some ⟨ga, 0, none⟩) n ca] wx fun e w' => e = .returned (.tuple #[.pointer (some ⟨wx.heap.size + 2, 0, none⟩), .bool true]) ∧ DevAt w' (fun k => k = wx.heap.size + 2 ∨ k = wx.heap.size ∨ k = wx.heap.size + 1) (wx.heap.size + 2) (St.fresh bs) ⟨wx.heap.size, wx.heap.size + 1, 0, 0, .map [], fun _ => 0, fun _ => 0, fun _ => 0⟩ ∧ Keeps (fun _ => False) wx w') := fun wx hk => by
    obtain ⟨y1, _⟩ := HF4.out wx hk
    have hbn := HB.out.1
    refine (loaded_yes ⟨ga, 0, none⟩ n ca (u8s bs) wx h1 h2 h3 (by simp [u8s, hbn]) (fun j v hj => ?_) (fun v hv => by simp only [u8s, List.mem_map] at hv; obtain ⟨_, _, rfl⟩ := hv; rfl) (heap_lt2 (y1 0 (by omega)))).mono ?_
    · have hjl : j < bs.length := by have := (List.getElem?_eq_some_iff.1 hj).1; simpa [u8s] using this
      have hadd : (⟨ga, 0, none⟩ : Addr).add j = ⟨ga, j, none⟩ := by unfold Addr.add; split <;> simp_all
      rw [hadd, y1 j (by omega), ← hj]
      simp [u8s, List.getD_eq_getElem?_getD, hjl, List.getElem?_append_left hjl]
    · rintro e w' ⟨rfl, q1, q2, q3, q4, _⟩
      refine ⟨rfl, ?_, Keeps.of q4 (by simp)⟩
      exact DevAt.fresh (by rw [hbn]; exact q3) q1 q2 (by omega) HB.out.2.2.1
  have hq1 : (n : Int) ≤ (ca : Int) := by omega
  have hq2 : ¬ ca = 0 := by omega
  have hq3 : n ≤ ca := by omega
  have hq4 : (0 : Int) ≤ (n : Int) := by omega
  have HCAP := Hid.mk' (show n + 24 ≤ cb ∧ N + 3 ≤ c4 from ⟨hb1, hc4⟩)
  clear hrow3 hg3 hrow4 hg4 hloc4 hlt4 K24 hone1 HAA HAA2 HBB hc4 ha1 hb1
  go_upto_region 9 with (first
    | (go_at_call 52; refine (hlo.out _ (Keeps.refl _ _)).mono ?_; rintro e w5 ⟨rfl, hd5, hk5⟩; have HD5 := Hid.mk' hd5; have K5 := Hid.mk' hk5; clear hd5 hk5))
  have HWR : Hid (Calls Try.prog 13 #[.pointer (some ⟨w4.heap.size + 2, 0, none⟩), .int .i64 0, .slice (some ⟨gb, 0, none⟩) n cb] w5 fun e w' => e = .returned (.int .i64 0) ∧ ∃ F' T L', DevAt w' F' (w4.heap.size + 2) T L' ∧ T.old.length = n ∧ T.steps ≤ 900000000 ∧ Keeps (fun _ => False) w4 w') := by
    obtain ⟨hbn, hwn, hv1, hv2⟩ := HB.out
    obtain ⟨l, e1, e2, e3⟩ := bytes_words ws hv2 (by omega)
    obtain ⟨_, y2, _⟩ := HF4.out w5 K5.out
    obtain ⟨_, y4, _⟩ := HF4.out w4 (Keeps.refl _ _)
    have hgl := heap_lt2 (y4 0 (by omega))
    have h5s := K5.out.size
    have hcbn := HCAP.out.1
    have hwd := write_dev w5 _ (w4.heap.size + 2) (St.fresh bs) _ 0 (some ⟨gb, 0, none⟩) cb l HD5.out (by omega) (fun _ => ⟨gb, rfl, by omega, by omega, fun i hi => by
      rw [y2 i (by omega), e1, List.getD_eq_getElem?_getD, List.getElem?_append_left (by omega), List.getD_eq_getElem?_getD]⟩) e3 (by omega) (by decide) (by show (0 : Int) + 8 * l.length ≤ (bs.length : Int); omega) (by show (0 : Int) ≤ 1000; omega)
    rw [show 8 * l.length = n by omega] at hwd
    refine hwd.mono ?_
    rintro e w6 ⟨rfl, F', L', q1, q2, q3⟩
    obtain ⟨r1, r2, r3, r4⟩ := runStores_facts l (St.fresh bs) 0
    refine ⟨by rw [r4 rfl], F', _, L', q1, by rw [r1]; exact hbn, ?_, keeps_on K5.out q2 (by omega)⟩
    have : (St.fresh bs).steps = 0 := rfl
    omega
  have hq5 : (n : Int) ≤ (cb : Int) := by have := HCAP.out.1; omega
  have hq6 : ¬ cb = 0 := by have := HCAP.out.1; omega
  have hq7 : n ≤ cb := by have := HCAP.out.1; omega
  have hq8 : (N : Int) ≤ (c4 : Int) := by have := HCAP.out.2; omega
  have hq9 : ¬ c4 = 0 := by have := HCAP.out.2; omega
  have hq10 : N ≤ c4 := by have := HCAP.out.2; omega
  have hq11 : (0 : Int) ≤ (N : Int) := by omega
  clear hlo
  go_upto_region 11 with (first
    | (go_at_call 13; refine HWR.out.mono ?_; rintro e w6 ⟨rfl, F', T, L', hd6, ht1, ht2, hk6⟩
       have HCR : Hid (Calls Try.prog 23 #[.pointer (some ⟨w4.heap.size + 2, 0, none⟩), .slice (some ⟨gc, 0, none⟩) N c4] w6 fun e w' => (∃ v, e = .returned v) ∧ Keeps (fun _ => False) w4 w') := by
         obtain ⟨_, _, y3, y4, _⟩ := HF4.out w6 hk6
         have hcr := crash_dev w6 F' (w4.heap.size + 2) T L' hd6 ht2 (by omega) (some ⟨gc, 0, none⟩) c4 cs (by rw [← HPC.out.1]; unfold maxLen; omega) (fun _ => ⟨gc, 0, rfl, heap_lt2 y4, fun i hi => by rw [Nat.zero_add]; exact y3 i (by rw [HPC.out.1]; exact hi)⟩)
         rw [← HPC.out.1] at hcr
         refine hcr.mono ?_
         rintro e w7 ⟨ks, _, rfl, _, q⟩
         exact ⟨⟨_, rfl⟩, hk6.trans q⟩
       clear hd6 ht1 ht2 hk6)
    | (go_at_call 23; refine HCR.out.mono ?_; rintro e w7 ⟨⟨v7, rfl⟩, hk7⟩; have K7 := Hid.mk' hk7; clear hk7 HCR))
  clear HWR HD5 K5 hq1 hq2 hq3 hq5 hq6 hq7
  go_wp2
  go_loopw [13] (fun i wr => ∃ k : Nat, k ≤ N ∧ i = .int .i64 k ∧ Hid (∃ q, wr = w7.drewN q)) (fun i _ => N - (intOf i).toNat)
  case atStart => exact ⟨0, by omega, rfl, 0, rfl⟩
  case round =>
    obtain ⟨k, hk, rfl, hrel⟩ := hrel
    have hkw : Keeps (fun _ => False) w4 wr := by obtain ⟨q, e⟩ := hrel.out; exact K7.out.trans (keeps_drewN' _ _ _ q e)
    obtain ⟨y1, y2, y3, y4, y5, y6, y7, y8⟩ := HF4.out wr hkw
    by_cases hlk : k < N
    · have e1 := y3 k hlk
      obtain ⟨cb', co, rfl, e2⟩ := y8 k hlk
      have h5 : (0 : Int) ≤ (k : Int) := by omega
      have h6 : (k : Int) < (N : Int) := by omega
      have h7 : (k : Int) < (N : Int) + 3 := by omega
      clear y1 y2 y3 y4 y5 y6 y7 y8 hkw
      go_wp2
      go_quiet (fail)
      go_wp2
      go_roundw
      case rel => exact ⟨k + 1, by omega, by go_num, by obtain ⟨q, e⟩ := hrel.out; rw [e]; exact ⟨_, by simp; rfl⟩⟩
      case measure => simp [intOf]; omega
    · have h6 : ¬ (k : Int) < (N : Int) := by omega
      have K8 := Hid.mk' hkw
      clear y1 y2 y3 y4 y5 y6 y7 y8 hkw hrel
      go_upto_region 17 with fail
      have KW := Hid.mk' (HF4.out wr K8.out).2.2.2.2.2.2.1
      have hq12 : (N : Int) < (N : Int) + 3 := by omega
      have hq13 : (N : Int) + 1 < (N : Int) + 3 := by omega
      have hq14 : (N : Int) + 2 < (N : Int) + 3 := by omega
      go_wp2_with (first
        | (go_at_call 38; refine HS2.out.mono ?_; rintro e w11 ⟨rfl, q, hq⟩; have K12 := Hid.mk' (K11.out.trans (keeps_drewN' _ _ _ q hq)); obtain ⟨_, _, _, z4, z5, z6, z7, _⟩ := HF4.out w11 K12.out; have KE := Hid.mk' z7; clear hq z7)
        | (go_at_call 51; refine (HR2.out _ (HF4.out _ K10.out).2.2.2.2.2.2.1).mono ?_; rintro e w10 ⟨gy, cy, rfl, _, _, _, hx4, hx5⟩; have HS2 := Hid.mk' (same_yes gb gy (n + 24) cb cy (ws ++ extra 24) w10 (HF4.out w10 (K10.out.trans hx5)).2.1 hx4 (by omega)); have K11 := Hid.mk' (K10.out.trans hx5); clear hx4 hx5)
        | (go_at_call 38; refine HS1.out.mono ?_; rintro e w9 ⟨rfl, q, hq⟩; have K10 := Hid.mk' (K9.out.trans (keeps_drewN' _ _ _ q hq)); clear hq)
        | (go_at_call 51; refine (HR1.out _ KW.out).mono ?_; rintro e w8 ⟨gx, cx, rfl, _, _, _, hx4, hx5⟩; have HS1 := Hid.mk' (same_yes ga gx (n + 24) ca cx (bs ++ extra 24) w8 (HF4.out w8 (K8.out.trans hx5)).1 hx4 (by omega)); have K9 := Hid.mk' (K8.out.trans hx5); clear hx4 hx5))
      go_ret
      exact ⟨rfl, KE.out⟩

end Go.Proofs.Ytfiekdgpdboolab
