import Derived.Test.YtngoifbflpeapaaDoorQ2
import Derived.Test.YtngoifbflpeapaaDoorQ4
namespace Go.Proofs.YtngoifbflpeapaaDoor
open Go.RowKit Go.Maps
set_option maxRecDepth 100000

/-! P19.6: unlike steps have unlike lines. -/
theorem mkB_ne {l : Bs} (h : l ≠ []) : (mkB l).toList ≠ [] := by
  rw [ByteArray.toList_eq, data_mkB]; exact h
theorem unlike_pure {s t : St} (h1 : InS s) (h2 : InS t) : smF (cutF s) (cutF t) = ((mkB (prF (cutF s))).toList == (mkB (prF (cutF t))).toList) := by
  have r1 := (cut_round h1 0 0 (by omega)).2.2.2.2
  have r2 := (cut_round h2 0 0 (by omega)).2.2.2.2
  rcases Bool.eq_false_or_eq_true (smF (cutF s) (cutF t)) with h | h
  · rw [h, smF_iff.1 h]; simp
  · rw [h]
    symm
    refine beq_eq_false_iff_ne.2 (fun e => ?_)
    have e2 : prF (cutF s) = prF (cutF t) := mkB_inj (toList_inj e)
    rw [e2, r2] at r1
    rw [r1] at h
    rw [smF_refl] at h
    cases h

set_option maxHeartbeats 8000000 in
theorem unlike_walk (w : World) (hv : Vars w) (t : St) (v : Value) (hr : Row w v t.l.length (ints t.l)) (hk0 : -9223372036854775808 ≤ t.kind ∧ t.kind ≤ 9223372036854775807) (hl : t.l.length ≤ 17592186044416) (hi : InS t)
    (u : St) (z : Value) (hr2 : Row w z u.l.length (ints u.l)) (hk2 : -9223372036854775808 ≤ u.kind ∧ u.kind ≤ 9223372036854775807) (hl2 : u.l.length ≤ 17592186044416) (hi2 : InS u) :
    Calls Tryd.prog 3 #[.agg (scell t v), .agg (scell u z)] w fun e w' => e = .returned (.bool true) ∧ Keeps (fun _ => False) w w' := by
  obtain ⟨p, c, rfl, _, _⟩ := id hr
  obtain ⟨p', c', rfl, _, _⟩ := id hr2
  have HV := Hid.mk' hv
  have HK0 := Hid.mk' (((Keeps.refl (fun _ => False) w).alloc (.cells (scell t (.slice p t.l.length c)) 24)).alloc (.cells (scell u (.slice p' u.l.length c')) 24))
  have HB0 : Hid (((w.alloc (.cells (scell t (.slice p t.l.length c)) 24)).alloc (.cells (scell u (.slice p' u.l.length c')) 24)).heap[w.heap.size + 1]? = some (.cells (scell u (.slice p' u.l.length c')) 24 (0, 0))) := by
    have := heap_last (w.alloc (.cells (scell t (.slice p t.l.length c)) 24)) (.cells (scell u (.slice p' u.l.length c')) 24)
    rw [World.size_alloc] at this
    exact this
  have hcut := cut_any _ t _ (hr.keep HK0.out) hk0 hl
  have hcut2 := fun (W : World) (k : Keeps (fun _ => False) w W) => cut_any W u _ (hr2.keep k) hk2 hl2
  have HO1 := Hid.mk' (cut_ok hi)
  have HO2 := Hid.mk' (cut_ok hi2)
  have hp1 := fun W h v hr => print_any W h (cutF t) v hr HO1.out.1 (wrF_le HO1.out.1)
  have hp2 := fun W h v hr => print_any W h (cutF u) v hr HO2.out.1 (wrF_le HO2.out.1)
  have n1 := mkB_ne (cut_round hi 0 0 (by omega)).2.1
  have n1' : ((mkB (prF (cutF t))).toList != []) = true := bne_iff_ne.2 n1
  have n2 := mkB_ne (cut_round hi2 0 0 (by omega)).2.1
  have n2' : ((mkB (prF (cutF u))).toList != []) = true := bne_iff_ne.2 n2
  have i1 : (mkB (prF (cutF t))).toList.isEmpty = false := by rw [List.isEmpty_eq_false_iff]; exact n1
  have i2 : (mkB (prF (cutF u))).toList.isEmpty = false := by rw [List.isEmpty_eq_false_iff]; exact n2
  have HS := Hid.mk' (unlike_pure hi hi2)
  have HL5 : Hid ((cutF t).l.length ≤ 500) := HO1.out.2.l
  clear n1 n1' n2 n2' hr hr2 hk0 hk2 hl hl2 hi hi2
  generalize cutF t = ct at *
  generalize cutF u = cu at *
  generalize mkB (prF ct) = L at *
  generalize mkB (prF cu) = M at *
  unfold scell at HK0 HB0 hcut
  unfold scell
  generalize hBB : (L.toList == M.toList) = BB at *
  go_enter Tryd.func3, Tryd.ntmps3
  have S0 := Hid.mk' True.intro
  go_wp2_with (first
    | (clear S0; go_at_call 5; refine hcut.mono ?_; clear hcut; rintro e w1 ⟨v1, rfl, h1⟩; obtain ⟨p1, c1, hv1, _, _⟩ := id h1.out.1; subst hv1; have H1 := Hid.mk' h1.out; clear h1; have HKA := Hid.mk' ((Keeps.refl (fun _ => False) w1).alloc (.cells (scell ct (.slice p1 ct.l.length c1)) 24)); have HBA := Hid.mk' (heap_last w1 (.cells (scell ct (.slice p1 ct.l.length c1)) 24)); have HKW := Hid.mk' ((HK0.out.trans H1.out.2).trans HKA.out); have HVA := Hid.mk' (HV.out.keep HKW.out); have HB1 := Hid.mk' (HKA.out.at (H1.out.2.at HB0.out id) id); have S1 := Hid.mk' True.intro)
    | (clear S1; refine wpList_alloc_st rfl rfl ?_; have S2 := Hid.mk' True.intro)
    | (clear S2; refine wpList_store_st rfl _ _ rfl ct p1 ct.l.length c1 (by rfl) (by rfl) ?_; have S3 := Hid.mk' True.intro)
    | (clear S3; refine wpList_load_row rfl 24 (.tmp 3) rfl (w.heap.size + 1) (by rfl) 24 (scell u (.slice p' u.l.length c')) (0, 0) _ HB1.out Tryd.underlying24 rfl size24 ?_; have S4 := Hid.mk' True.intro)
    | (clear S4; go_at_call 5; refine (hcut2 _ HKW.out).mono ?_; clear hcut2; rintro e w2 ⟨v2, rfl, h2⟩; obtain ⟨p2, c2, hv2, _, _⟩ := id h2.out.1; subst hv2; have H2 := Hid.mk' h2.out; clear h2; have HKB := Hid.mk' ((Keeps.refl (fun _ => False) w2).alloc (.cells (scell cu (.slice p2 cu.l.length c2)) 24)); have HBB := Hid.mk' (heap_last w2 (.cells (scell cu (.slice p2 cu.l.length c2)) 24)); have HBA2 := Hid.mk' (HKB.out.at (H2.out.2.at HBA.out id) id); have HVB := Hid.mk' (HVA.out.keep (H2.out.2.trans HKB.out)); have S5 := Hid.mk' True.intro)
    | (clear S5; refine wpList_alloc_st rfl rfl ?_; have S6 := Hid.mk' True.intro)
    | (clear S6; refine wpList_store_st rfl _ _ rfl cu p2 cu.l.length c2 (by rfl) (by rfl) ?_; have S7 := Hid.mk' True.intro)
    | (clear S7; refine wpList_load_row rfl 24 (.tmp 5) rfl w1.heap.size (by rfl) 24 (scell ct (.slice p1 ct.l.length c1)) (0, 0) _ HBA2.out Tryd.underlying24 rfl size24 ?_; have S8 := Hid.mk' True.intro)
    | (clear S8; go_at_call 6; refine (hp1 _ HVB.out _ (H1.out.1.keep (HKA.out.trans (H2.out.2.trans HKB.out)))).mono ?_; clear hp1; rintro e w3 ⟨rfl, hk3⟩; have HK3 := Hid.mk' hk3; clear hk3; have HVC := Hid.mk' (HVB.out.keep HK3.out); have HBB3 := Hid.mk' (HK3.out.at HBB.out id); have S9 := Hid.mk' True.intro)
    | (clear S9; refine wpList_load_row rfl 24 (.tmp 6) rfl w2.heap.size (by rfl) 24 (scell cu (.slice p2 cu.l.length c2)) (0, 0) _ HBB3.out Tryd.underlying24 rfl size24 ?_; have T0 := Hid.mk' True.intro)
    | (clear T0; go_at_call 6; refine (hp2 _ HVC.out _ (H2.out.1.keep (HKB.out.trans HK3.out))).mono ?_; clear hp2; rintro e w4 ⟨rfl, hk4⟩; have HK4 := Hid.mk' hk4; clear hk4; have HKB4 := Hid.mk' (HK3.out.trans HK4.out); have HKA4 := Hid.mk' (H2.out.2.trans (HKB.out.trans HKB4.out)); have a0 := HKA4.out.cell (new_cell w1 (scell ct (.slice p1 ct.l.length c1)) 24 0 (.int .i64 ct.kind) rfl) id; have a1 := HKA4.out.cell (new_cell w1 (scell ct (.slice p1 ct.l.length c1)) 24 1 (.string ct.a) rfl) id; have a2 := HKA4.out.cell (new_cell w1 (scell ct (.slice p1 ct.l.length c1)) 24 2 (.string ct.b) rfl) id; have a3 := HKA4.out.cell (new_cell w1 (scell ct (.slice p1 ct.l.length c1)) 24 3 (.int .i64 ct.n) rfl) id; have a4 := HKA4.out.cell (new_cell w1 (scell ct (.slice p1 ct.l.length c1)) 24 4 (.int .i64 ct.m) rfl) id; have a5 := HKA4.out.cell (new_cell w1 (scell ct (.slice p1 ct.l.length c1)) 24 5 (.int .i64 ct.k) rfl) id; have a6 := HKA4.out.cell (new_cell w1 (scell ct (.slice p1 ct.l.length c1)) 24 6 (.slice p1 ct.l.length c1) rfl) id; have b0 := HKB4.out.cell (new_cell w2 (scell cu (.slice p2 cu.l.length c2)) 24 0 (.int .i64 cu.kind) rfl) id; have b1 := HKB4.out.cell (new_cell w2 (scell cu (.slice p2 cu.l.length c2)) 24 1 (.string cu.a) rfl) id; have b2 := HKB4.out.cell (new_cell w2 (scell cu (.slice p2 cu.l.length c2)) 24 2 (.string cu.b) rfl) id; have b3 := HKB4.out.cell (new_cell w2 (scell cu (.slice p2 cu.l.length c2)) 24 3 (.int .i64 cu.n) rfl) id; have b4 := HKB4.out.cell (new_cell w2 (scell cu (.slice p2 cu.l.length c2)) 24 4 (.int .i64 cu.m) rfl) id; have b5 := HKB4.out.cell (new_cell w2 (scell cu (.slice p2 cu.l.length c2)) 24 5 (.int .i64 cu.k) rfl) id; have b6 := HKB4.out.cell (new_cell w2 (scell cu (.slice p2 cu.l.length c2)) 24 6 (.slice p2 cu.l.length c2) rfl) id; have T1 := Hid.mk' True.intro)
    | (clear T1; go_at_call 7; refine (lsame_any _ ct cu _ _ (H1.out.1.keep (HKA.out.trans HKA4.out)) (H2.out.1.keep (HKB.out.trans HKB4.out)) (by have h : ct.l.length ≤ 500 := HL5.out; omega)).mono ?_; rintro e w5 ⟨rfl, hk5⟩; have HK5 := Hid.mk' hk5; clear hk5; rw [HS.out]; have T2 := Hid.mk' True.intro))
  go_ret
  exact ⟨by cases BB <;> rfl, ((HKW.out.trans HKA4.out)).trans HK5.out⟩
end Go.Proofs.YtngoifbflpeapaaDoor

