import Derived.Test.YtngoifbflpeapabDoorQ2
import Derived.Test.YtngoifbflpeapabDoorQ4
namespace Go.Proofs.YtngoifbflpeapabDoor
open Go.RowKit Go.Maps
set_option maxRecDepth 100000

/-! P19.6: every step whose line isn't too long has a line that is read as that step. -/
theorem ext2 (pr : Bs) : ((⟨#[32, 32]⟩ : ByteArray) ++ mkB pr) ++ ⟨#[32, 32, 32]⟩ = mkB (List.replicate 2 32 ++ (pr ++ List.replicate 3 32)) := by
  rw [show (⟨#[32, 32]⟩ : ByteArray) = mkB [32, 32] from rfl, show (⟨#[32, 32, 32]⟩ : ByteArray) = mkB [32, 32, 32] from rfl, mkB_app, mkB_app, List.append_assoc]
  rfl
theorem mkB_ne {l : Bs} (h : l ≠ []) : (mkB l).toList ≠ [] := by
  rw [ByteArray.toList_eq, data_mkB]; exact h

set_option maxHeartbeats 8000000 in
theorem round_walk (w : World) (hv : Vars w) (t : St) (v : Value) (hr : Row w v t.l.length (ints t.l)) (hk0 : -9223372036854775808 ≤ t.kind ∧ t.kind ≤ 9223372036854775807) (hl : t.l.length ≤ 17592186044416) (hi : InS t) :
    Calls Tryd.prog 5 #[.agg (scell t v)] w fun e w' => e = .returned (.bool true) ∧ Keeps (fun _ => False) w w' := by
  obtain ⟨p, c, rfl, _, _⟩ := id hr
  have HV := Hid.mk' hv
  have HK0 := Hid.mk' ((Keeps.refl (fun _ => False) w).alloc (.cells (scell t (.slice p t.l.length c)) 24))
  have hcut := cut_any _ t _ (hr.keep HK0.out) hk0 hl
  have HOK := Hid.mk' (cut_ok hi)
  have r0 := cut_round hi 0 0 (by omega)
  have r1 := cut_round hi 2 3 (by omega)
  have hpr := fun W h v hr => print_any W h (cutF t) v hr HOK.out.1 (wrF_le HOK.out.1)
  have hl1 := fun W h => line_any W h (mkB (prF (cutF t)))
  have hl2 := fun W h => line_any W h (((⟨#[32, 32]⟩ : ByteArray) ++ mkB (prF (cutF t))) ++ ⟨#[32, 32, 32]⟩)
  rw [data_mkB, show prF (cutF t) = List.replicate 0 32 ++ (prF (cutF t) ++ List.replicate 0 32) by simp, r0.2.2.2.1, r0.2.2.2.2] at hl1
  rw [show List.replicate 0 32 ++ (prF (cutF t) ++ List.replicate 0 32) = prF (cutF t) by simp] at hl1
  have e2 : (((⟨#[32, 32]⟩ : ByteArray) ++ mkB (prF (cutF t))) ++ ⟨#[32, 32, 32]⟩).data.toList = List.replicate 2 32 ++ (prF (cutF t) ++ List.replicate 3 32) := by rw [ext2, data_mkB]
  simp only [e2, r1.2.2.2.1, r1.2.2.2.2] at hl2
  have n1 := mkB_ne r0.2.1
  have z0 := r0.2.2.1
  rw [← mkB_size] at z0
  have z1 : ¬ 9223372036854775807 < 2 + (mkB (prF (cutF t))).size := by omega
  have z2 : ¬ 9223372036854775807 < 2 + (mkB (prF (cutF t))).size + 3 := by omega
  have n2 : ((mkB (prF (cutF t))).toList == []) = false := beq_eq_false_iff_ne.2 n1
  have n3 : ((mkB (prF (cutF t))).toList != []) = true := bne_iff_ne.2 n1
  have HL5 : Hid ((cutF t).l.length ≤ 500) := HOK.out.2.l
  have HS : Hid (smF (cutF t) (cutF t) = true) := smF_refl _
  clear r0 r1 e2 hr hl hk0 hi
  generalize cutF t = ct at *
  generalize mkB (prF ct) = L at *
  unfold scell at HK0 hcut
  unfold scell
  go_enter Tryd.func5, Tryd.ntmps5
  have S0 := Hid.mk' True.intro
  go_wp2_with (first
    | (clear S0; go_at_call 11; refine hcut.mono ?_; clear hcut; rintro e w1 ⟨v1, rfl, h1⟩; obtain ⟨p1, c1, hv1, _, _⟩ := id h1.out.1; subst hv1; have H1 := Hid.mk' h1.out; clear h1; have HKA := Hid.mk' ((Keeps.refl (fun _ => False) w1).alloc (.cells (scell ct (.slice p1 ct.l.length c1)) 24)); have HBA := Hid.mk' (heap_last w1 (.cells (scell ct (.slice p1 ct.l.length c1)) 24)); have HVA := Hid.mk' (HV.out.keep ((HK0.out.trans H1.out.2).trans HKA.out)); have S1 := Hid.mk' True.intro)
    | (clear S1; refine wpList_alloc_st rfl rfl ?_; have S2 := Hid.mk' True.intro)
    | (clear S2; refine wpList_store_st rfl _ _ rfl ct p1 ct.l.length c1 (by rfl) (by rfl) ?_; have S3 := Hid.mk' True.intro)
    | (clear S3; refine wpList_load_row rfl 24 (.tmp 3) rfl w1.heap.size (by rfl) 24 (scell ct (.slice p1 ct.l.length c1)) (0, 0) _ HBA.out Tryd.underlying24 rfl size24 ?_; have S4 := Hid.mk' True.intro)
    | (clear S4; go_at_call 10; refine (hpr _ HVA.out _ (H1.out.1.keep HKA.out)).mono ?_; clear hpr; rintro e w2 ⟨rfl, hk2⟩; have HK2 := Hid.mk' hk2; clear hk2; have HV2 := Hid.mk' (HVA.out.keep HK2.out); have S5 := Hid.mk' True.intro)
    | (clear S5; go_at_call 8; refine (hl1 _ HV2.out).mono ?_; clear hl1; rintro e w3 ⟨v3, rfl, h3⟩; obtain ⟨p3, c3, hv3, _, _⟩ := id (Row.of_own h3.out.1); subst hv3; have H3 := Hid.mk' h3.out; clear h3; have HKB := Hid.mk' ((Keeps.refl (fun _ => False) w3).alloc (.cells (scell ct (.slice p3 ct.l.length c3)) 24)); have HV3 := Hid.mk' (HV2.out.keep (H3.out.2.trans HKB.out)); have S6 := Hid.mk' True.intro)
    | (clear S6; refine wpList_alloc_st rfl rfl ?_; have S7 := Hid.mk' True.intro)
    | (clear S7; refine wpList_store_st rfl _ _ rfl ct p3 ct.l.length c3 (by rfl) (by rfl) ?_; have S8 := Hid.mk' True.intro)
    | (clear S8; go_at_call 8; refine (hl2 _ HV3.out).mono ?_; clear hl2; rintro e w4 ⟨v4, rfl, h4⟩; obtain ⟨p4, c4, hv4, _, _⟩ := id (Row.of_own h4.out.1); subst hv4; have H4 := Hid.mk' h4.out; clear h4; have HKC := Hid.mk' ((Keeps.refl (fun _ => False) w4).alloc (.cells (scell ct (.slice p4 ct.l.length c4)) 24)); have HKB4 := Hid.mk' (H4.out.2.trans HKC.out); have HKA4 := Hid.mk' (HK2.out.trans (H3.out.2.trans (HKB.out.trans HKB4.out))); have a0 := HKA4.out.cell (new_cell w1 (scell ct (.slice p1 ct.l.length c1)) 24 0 (.int .i64 ct.kind) rfl) id; have a1 := HKA4.out.cell (new_cell w1 (scell ct (.slice p1 ct.l.length c1)) 24 1 (.string ct.a) rfl) id; have a2 := HKA4.out.cell (new_cell w1 (scell ct (.slice p1 ct.l.length c1)) 24 2 (.string ct.b) rfl) id; have a3 := HKA4.out.cell (new_cell w1 (scell ct (.slice p1 ct.l.length c1)) 24 3 (.int .i64 ct.n) rfl) id; have a4 := HKA4.out.cell (new_cell w1 (scell ct (.slice p1 ct.l.length c1)) 24 4 (.int .i64 ct.m) rfl) id; have a5 := HKA4.out.cell (new_cell w1 (scell ct (.slice p1 ct.l.length c1)) 24 5 (.int .i64 ct.k) rfl) id; have a6 := HKA4.out.cell (new_cell w1 (scell ct (.slice p1 ct.l.length c1)) 24 6 (.slice p1 ct.l.length c1) rfl) id; have b0 := HKB4.out.cell (new_cell w3 (scell ct (.slice p3 ct.l.length c3)) 24 0 (.int .i64 ct.kind) rfl) id; have b1 := HKB4.out.cell (new_cell w3 (scell ct (.slice p3 ct.l.length c3)) 24 1 (.string ct.a) rfl) id; have b2 := HKB4.out.cell (new_cell w3 (scell ct (.slice p3 ct.l.length c3)) 24 2 (.string ct.b) rfl) id; have b3 := HKB4.out.cell (new_cell w3 (scell ct (.slice p3 ct.l.length c3)) 24 3 (.int .i64 ct.n) rfl) id; have b4 := HKB4.out.cell (new_cell w3 (scell ct (.slice p3 ct.l.length c3)) 24 4 (.int .i64 ct.m) rfl) id; have b5 := HKB4.out.cell (new_cell w3 (scell ct (.slice p3 ct.l.length c3)) 24 5 (.int .i64 ct.k) rfl) id; have b6 := HKB4.out.cell (new_cell w3 (scell ct (.slice p3 ct.l.length c3)) 24 6 (.slice p3 ct.l.length c3) rfl) id; have d0 := (Keeps.refl (fun _ => False) _).cell (new_cell w4 (scell ct (.slice p4 ct.l.length c4)) 24 0 (.int .i64 ct.kind) rfl) id; have d1 := (Keeps.refl (fun _ => False) _).cell (new_cell w4 (scell ct (.slice p4 ct.l.length c4)) 24 1 (.string ct.a) rfl) id; have d2 := (Keeps.refl (fun _ => False) _).cell (new_cell w4 (scell ct (.slice p4 ct.l.length c4)) 24 2 (.string ct.b) rfl) id; have d3 := (Keeps.refl (fun _ => False) _).cell (new_cell w4 (scell ct (.slice p4 ct.l.length c4)) 24 3 (.int .i64 ct.n) rfl) id; have d4 := (Keeps.refl (fun _ => False) _).cell (new_cell w4 (scell ct (.slice p4 ct.l.length c4)) 24 4 (.int .i64 ct.m) rfl) id; have d5 := (Keeps.refl (fun _ => False) _).cell (new_cell w4 (scell ct (.slice p4 ct.l.length c4)) 24 5 (.int .i64 ct.k) rfl) id; have d6 := (Keeps.refl (fun _ => False) _).cell (new_cell w4 (scell ct (.slice p4 ct.l.length c4)) 24 6 (.slice p4 ct.l.length c4) rfl) id; have S9 := Hid.mk' True.intro)
    | (clear S9; refine wpList_alloc_st rfl rfl ?_; have T0 := Hid.mk' True.intro)
    | (clear T0; refine wpList_store_st rfl _ _ rfl ct p4 ct.l.length c4 (by rfl) (by rfl) ?_; have T1 := Hid.mk' True.intro)
    | (clear T1; go_at_call 9; refine (lsame_any _ ct ct _ _ (H1.out.1.keep (HKA.out.trans HKA4.out)) ((Row.of_own H3.out.1).keep (HKB.out.trans HKB4.out)) (by have h : ct.l.length ≤ 500 := HL5.out; omega)).mono ?_; rintro e w5 ⟨rfl, hk5⟩; have HK5 := Hid.mk' hk5; clear hk5; rw [HS.out]; have e0 := (HKA4.out.trans HK5.out).cell (new_cell w1 (scell ct (.slice p1 ct.l.length c1)) 24 0 (.int .i64 ct.kind) rfl) id; have e1 := (HKA4.out.trans HK5.out).cell (new_cell w1 (scell ct (.slice p1 ct.l.length c1)) 24 1 (.string ct.a) rfl) id; have e2 := (HKA4.out.trans HK5.out).cell (new_cell w1 (scell ct (.slice p1 ct.l.length c1)) 24 2 (.string ct.b) rfl) id; have e3 := (HKA4.out.trans HK5.out).cell (new_cell w1 (scell ct (.slice p1 ct.l.length c1)) 24 3 (.int .i64 ct.n) rfl) id; have e4 := (HKA4.out.trans HK5.out).cell (new_cell w1 (scell ct (.slice p1 ct.l.length c1)) 24 4 (.int .i64 ct.m) rfl) id; have e5 := (HKA4.out.trans HK5.out).cell (new_cell w1 (scell ct (.slice p1 ct.l.length c1)) 24 5 (.int .i64 ct.k) rfl) id; have e6 := (HKA4.out.trans HK5.out).cell (new_cell w1 (scell ct (.slice p1 ct.l.length c1)) 24 6 (.slice p1 ct.l.length c1) rfl) id; have g0 := HK5.out.cell (new_cell w4 (scell ct (.slice p4 ct.l.length c4)) 24 0 (.int .i64 ct.kind) rfl) id; have g1 := HK5.out.cell (new_cell w4 (scell ct (.slice p4 ct.l.length c4)) 24 1 (.string ct.a) rfl) id; have g2 := HK5.out.cell (new_cell w4 (scell ct (.slice p4 ct.l.length c4)) 24 2 (.string ct.b) rfl) id; have g3 := HK5.out.cell (new_cell w4 (scell ct (.slice p4 ct.l.length c4)) 24 3 (.int .i64 ct.n) rfl) id; have g4 := HK5.out.cell (new_cell w4 (scell ct (.slice p4 ct.l.length c4)) 24 4 (.int .i64 ct.m) rfl) id; have g5 := HK5.out.cell (new_cell w4 (scell ct (.slice p4 ct.l.length c4)) 24 5 (.int .i64 ct.k) rfl) id; have g6 := HK5.out.cell (new_cell w4 (scell ct (.slice p4 ct.l.length c4)) 24 6 (.slice p4 ct.l.length c4) rfl) id; have T2 := Hid.mk' True.intro)
    | (clear T2; go_at_call 9; refine (lsame_any _ ct ct _ _ (H1.out.1.keep ((HKA.out.trans HKA4.out).trans HK5.out)) ((Row.of_own H4.out.1).keep (HKC.out.trans HK5.out)) (by have h : ct.l.length ≤ 500 := HL5.out; omega)).mono ?_; rintro e w6 ⟨rfl, hk6⟩; have HK6 := Hid.mk' hk6; clear hk6; rw [HS.out]; have T3 := Hid.mk' True.intro))
  go_ret
  exact ⟨rfl, (((HK0.out.trans H1.out.2).trans (HKA.out.trans HKA4.out)).trans HK5.out).trans HK6.out⟩
end Go.Proofs.YtngoifbflpeapabDoor

