import Derived.Test.YtfekgfimbkgkfabF1
namespace Go.Proofs.Ytfekgfimbkgkfab
open Go.RowKit Go.Maps

set_option maxHeartbeats 1000000 in
set_option maxRecDepth 100000 in
theorem copyPath_any (w : World) (v : Value) (p : List ByteArray) (sl : Bool) (h : Row w v p.length (strs p)) (hn : p.length < 8796093022000) :
    Calls Try.prog 19 #[.agg #[v, .bool sl]] w fun e w' => ∃ r, e = .returned (.agg #[r, .bool sl]) ∧ Hid (w'.ownsRow w.heap.size 9 1 r p.length (strs p) ∧ Keeps (fun _ => False) w w') := by
  obtain ⟨i0, hi, hz0, hz1, hz2⟩ := info_parts info9
  obtain ⟨a, cap, rfl, hcap, _⟩ := id h
  obtain ⟨n1, n2, n3, n4⟩ := two_blocks w (.cells #[.slice a p.length cap, .bool sl] 25) (.cells #[.slice none 0 0, .bool false] 25)
  have hd := Keeps.drewN (fun _ => False) ((w.alloc (.cells #[.slice a p.length cap, .bool sl] 25)).alloc (.cells #[.slice none 0 0, .bool false] 25)) 1
  have hT := h.keep (n3.trans hd)
  obtain ⟨v', w1, hr, hown, hgr⟩ := run_append_any (P := Try.prog) (((w.alloc (.cells #[.slice a p.length cap, .bool sl] 25)).alloc (.cells #[.slice none 0 0, .bool false] 25)).drewN 1) (w.heap.size + 2) 23 23 9 i0 (.string ⟨#[]⟩) 1 16 Try.underlying23 hi hz0 hz1 hz2 rfl (by decide) (.slice none 0 0) 0 [] (World.ownsRow_nil _ _ _ _) a p.length cap (strs p) (by rw [strs_len, Nat.mul_one]) hT.news (strs_one _) (by unfold maxLen; omega) (by omega) (Nat.le_trans (Nat.le_of_eq n4.symm) hd.size)
  have hk1 : Keeps (fun _ => False) _ w1 := Keeps.of hgr (by simp [Value.ownBlock])
  have hB := hk1.at (hd.at n2 id) id
  have hB1 := hk1.at (hd.at n1 id) id
  rw [Nat.zero_add, List.nil_append] at hown
  obtain ⟨ra, rc, er, _⟩ := Row.of_own hown
  subst er
  obtain ⟨q0, q1, qf⟩ := cells2 hB
  have f0 := qf 0
  have f1 := qf 1
  obtain ⟨d0, d1⟩ := set2c hB (.slice ra p.length rc) (.bool sl)
  obtain ⟨_, s2⟩ := set2 hB (.slice ra p.length rc) (.bool sl)
  have HE : Hid (((w1.setCell ⟨w.heap.size + 1, 0, none⟩ (.slice ra p.length rc)).setCell ⟨w.heap.size + 1, 1, none⟩ (.bool sl)).ownsRow w.heap.size 9 1 (.slice ra p.length rc) p.length (strs p) ∧ Keeps (fun _ => False) w ((w1.setCell ⟨w.heap.size + 1, 0, none⟩ (.slice ra p.length rc)).setCell ⟨w.heap.size + 1, 1, none⟩ (.bool sl))) :=
    ⟨own_base (own_keep hown s2 (fun g hg hk => by have := (hown.lt g hg).1; omega)) (by omega), ((n3.trans hd).trans hk1).then s2 (fun k hk => Or.inr (by omega))⟩
  obtain ⟨c0, c1, _⟩ := cells2 n1
  obtain ⟨e0, e1, _⟩ := cells2 hB1
  have HS2 : Hid (((w1.setCell ⟨w.heap.size + 1, 0, none⟩ (.slice ra p.length rc)).setCell ⟨w.heap.size + 1, 1, none⟩ (.bool sl)).cell? ⟨w.heap.size, 0, none⟩ = some (.slice a p.length cap) ∧ ((w1.setCell ⟨w.heap.size + 1, 0, none⟩ (.slice ra p.length rc)).setCell ⟨w.heap.size + 1, 1, none⟩ (.bool sl)).cell? ⟨w.heap.size, 1, none⟩ = some (.bool sl)) := by
    obtain ⟨a1, a2, _⟩ := cells2 (s2.at hB1 (by omega))
    exact ⟨a1, a2⟩
  have HR := Hid.mk' hr
  clear n1 n2 n3 n4 h hT hown hgr hk1 hB hB1 s2 qf hd hr
  go_enter Try.func19, Try.ntmps19
  go_wp2
  refine wp_region_held_drew (S := fun wx => wx.cell? ⟨w.heap.size, 0, none⟩ = some (.slice a p.length cap) ∧ wx.cell? ⟨w.heap.size, 1, none⟩ = some (.bool sl)) (by kernel_rfl) ⟨c0, c1⟩ (fun hS => ?_)
  refine takeH 0 (some 4) (.slice none 0 0) rfl rfl (by kernel_rfl) (by kernel_rfl) (by kernel_rfl) (fun _ _ _ h => h) (Or.inl ⟨by rfl, fun wx ⟨s0, s1⟩ => by go_simp⟩) hS ?_
  simp only [Act.put, List.setIfInBounds_toArray, List.set_cons_zero, List.set_cons_succ]
  refine takeH 1 (some 5) (.pointer (some ⟨w.heap.size, 0, none⟩)) rfl rfl (by kernel_rfl) (by kernel_rfl) (by kernel_rfl) (fun _ _ _ h => h) (Or.inl ⟨by rfl, fun wx ⟨s0, s1⟩ => by go_simp⟩) hS ?_
  simp only [Act.put, List.setIfInBounds_toArray, List.set_cons_zero, List.set_cons_succ]
  refine takeH 2 (some 6) (.slice a p.length cap) rfl rfl (by kernel_rfl) (by kernel_rfl) (by kernel_rfl) (fun _ _ _ h => h) (Or.inl ⟨by rfl, fun wx ⟨s0, s1⟩ => by go_simp⟩) hS ?_
  simp only [Act.put, List.setIfInBounds_toArray, List.set_cons_zero, List.set_cons_succ]
  refine takeH 4 (some 8) (.pointer (some ⟨w.heap.size, 1, none⟩)) rfl rfl (by kernel_rfl) (by kernel_rfl) (by kernel_rfl) (fun _ _ _ h => h) (Or.inl ⟨by rfl, fun wx ⟨s0, s1⟩ => by go_simp⟩) hS ?_
  simp only [Act.put, List.setIfInBounds_toArray, List.set_cons_zero, List.set_cons_succ]
  refine takeH 5 (some 9) (.bool sl) rfl rfl (by kernel_rfl) (by kernel_rfl) (by kernel_rfl) (fun _ _ _ h => h) (Or.inl ⟨by rfl, fun wx ⟨s0, s1⟩ => by go_simp⟩) hS ?_
  simp only [Act.put, List.setIfInBounds_toArray, List.set_cons_zero, List.set_cons_succ]
  refine wpAnyH_ready (rs := [3]) (by kernel_rfl) (by simp) (AllReadyH.cons rfl (fun K hK => ?_) AllReadyH.nil)
  refine step_append rfl _ _ 23 rfl _ _ rfl rfl _ w1 HR.out ?_
  refine hK.out _ _ ⟨e0, e1⟩ (fun hS => ?_)
  clear hK
  try simp only [Act.put, List.setIfInBounds_toArray]
  refine takeH 6 (some 10) (.agg #[.slice ra p.length rc, .bool sl]) rfl rfl (by kernel_rfl) (by kernel_rfl) (by kernel_rfl) (fun _ _ _ h => h) (Or.inl ⟨by rfl, fun wx ⟨s0, s1⟩ => by go_simp⟩) hS ?_
  simp only [Act.put]
  refine wpAnyH_ready (rs := [7]) (by kernel_rfl) (by simp) (AllReadyH.cons rfl (fun K hK => ?_) AllReadyH.nil)
  go_simp
  refine hK.out _ _ HS2.out (fun hS => ?_)
  clear hK
  try simp only [Act.put, List.setIfInBounds_toArray]
  refine wpAnyH_done (by kernel_rfl) ?_ _
  go_wp2
  refine bodyPost_ret (v := .agg #[.slice ra p.length rc, .bool sl]) (by simp [results, Try.results19, go_sem, d0, d1]) rfl ?_
  exact ⟨_, rfl, HE.out⟩
end Go.Proofs.Ytfekgfimbkgkfab
