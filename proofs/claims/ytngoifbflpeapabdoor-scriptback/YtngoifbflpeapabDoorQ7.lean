import Derived.Test.YtngoifbflpeapabDoorQ2
import Derived.Test.YtngoifbflpeapabDoorP11
namespace Go.Proofs.YtngoifbflpeapabDoor
open Go.RowKit Go.Maps
set_option maxRecDepth 100000

/-! P19.5, P19.6: a line that is read has a step whose own line is no longer, and is read as the same step. -/
set_option maxHeartbeats 8000000 in
theorem back_walk (w : World) (hv : Vars w) (s : ByteArray) (_hs : s.size ≤ 140737488355328) :
    Calls Tryd.prog 3 #[.string s] w fun e w' => e = .returned (.bool true) ∧ Keeps (fun _ => False) w w' := by
  have hl0 := fun W h => line_any W h ⟨#[119, 114, 105, 116, 101, 32, 34, 47, 97, 34, 32, 45, 53, 32, 34, 92, 120, 52, 49, 98, 34]⟩
  rw [show (⟨#[119, 114, 105, 116, 101, 32, 34, 47, 97, 34, 32, 45, 53, 32, 34, 92, 120, 52, 49, 98, 34]⟩ : ByteArray).data.toList = litB from rfl, lit_read.1, lit_read.2] at hl0
  have hl1 := fun W h => line_any W h s
  by_cases hbig : 100000 < s.size
  · have hbig' : (100000 : Int) < (s.size : Int) := by omega
    clear hl1
    go_enter Tryd.func3, Tryd.ntmps3
    have S0 := Hid.mk' True.intro
    go_wp2_with (first
    | (clear S0; go_at_call 8; refine (hl0 w hv).mono ?_; clear hl0; rintro e w1 ⟨v1, rfl, h1⟩; obtain ⟨p1, c1, hv1, _, _⟩ := id (Row.of_own h1.out.1); subst hv1; have H1 := Hid.mk' h1.out; clear h1; have HK1 := Hid.mk' (H1.out.2.trans ((Keeps.refl (fun _ => False) w1).alloc (.cells (scell litT (.slice p1 litT.l.length c1)) 24))); have a0 := new_cell w1 (scell litT (.slice p1 litT.l.length c1)) 24 0 (.int .i64 11) rfl; have a1 := new_cell w1 (scell litT (.slice p1 litT.l.length c1)) 24 1 (.string ⟨#[47, 97]⟩) rfl; have a2 := new_cell w1 (scell litT (.slice p1 litT.l.length c1)) 24 2 (.string ⟨#[65, 98]⟩) rfl; have a3 := new_cell w1 (scell litT (.slice p1 litT.l.length c1)) 24 3 (.int .i64 (-5)) rfl; have S1 := Hid.mk' True.intro)
    | (clear S1; refine wpList_alloc_st rfl rfl ?_; have S2 := Hid.mk' True.intro)
    | (clear S2; refine wpList_store_st rfl _ _ rfl litT p1 litT.l.length c1 (by rfl) (by rfl) ?_; have S3 := Hid.mk' True.intro))
    go_ret
    exact ⟨rfl, HK1.out⟩
  have hbig' : ¬ (100000 : Int) < (s.size : Int) := by omega
  have HSZ := Hid.mk' (size_len s)
  have HLL := Hid.mk' (lnS_len s.data.toList)
  by_cases hE : lnE s.data.toList = 0
  · obtain ⟨b1, b2, b3, b4, b5, b6⟩ := back_all hE
    have hp := fun W h v hr => print_any W h (lnS s.data.toList) v hr b2 (wrF_le b2)
    have hl2 := fun W h => line_any W h (mkB (prF (lnS s.data.toList)))
    rw [data_mkB, b5, b6] at hl2
    rw [hE] at hl1
    have n1 : (mkB (prF (lnS s.data.toList))).toList.isEmpty = false := by
      rw [List.isEmpty_eq_false_iff, ByteArray.toList_eq, data_mkB]; exact b3
    have n2 : ((mkB (prF (lnS s.data.toList))).size : Int) ≤ (s.size : Int) := by rw [mkB_size, HSZ.out]; omega
    have n3 : (s.size : Int) ≤ 20000 := by rw [HSZ.out]; omega
    have HO := Hid.mk' b2
    have HSM : Hid (smF (lnS s.data.toList) (lnS s.data.toList) = true) := smF_refl _
    have HLL2 : Hid ((lnS s.data.toList).l.length ≤ 20000) := HLL.out
    clear b1 b2 b3 b4 b5 b6 HLL HSZ hE
    generalize mkB (prF (lnS s.data.toList)) = L at *
    generalize lnS s.data.toList = t at *
    go_enter Tryd.func3, Tryd.ntmps3
    have S0 := Hid.mk' True.intro
    go_wp2_with (first
    | (clear S0; go_at_call 8; refine (hl0 w hv).mono ?_; clear hl0; rintro e w1 ⟨v1, rfl, h1⟩; obtain ⟨p1, c1, hv1, _, _⟩ := id (Row.of_own h1.out.1); subst hv1; have H1 := Hid.mk' h1.out; clear h1; have HK1 := Hid.mk' (H1.out.2.trans ((Keeps.refl (fun _ => False) w1).alloc (.cells (scell litT (.slice p1 litT.l.length c1)) 24))); have a0 := new_cell w1 (scell litT (.slice p1 litT.l.length c1)) 24 0 (.int .i64 11) rfl; have a1 := new_cell w1 (scell litT (.slice p1 litT.l.length c1)) 24 1 (.string ⟨#[47, 97]⟩) rfl; have a2 := new_cell w1 (scell litT (.slice p1 litT.l.length c1)) 24 2 (.string ⟨#[65, 98]⟩) rfl; have a3 := new_cell w1 (scell litT (.slice p1 litT.l.length c1)) 24 3 (.int .i64 (-5)) rfl; have S1 := Hid.mk' True.intro)
    | (clear S1; refine wpList_alloc_st rfl rfl ?_; have S2 := Hid.mk' True.intro)
    | (clear S2; refine wpList_store_st rfl _ _ rfl litT p1 litT.l.length c1 (by rfl) (by rfl) ?_; have S3 := Hid.mk' True.intro)
    | (clear S3; go_at_call 8; refine (hl1 _ (hv.keep HK1.out)).mono ?_; clear hl1; rintro e w2 ⟨v2, rfl, h2⟩; obtain ⟨p2, c2, hv2, _, _⟩ := id (Row.of_own h2.out.1); subst hv2; have H2 := Hid.mk' h2.out; clear h2; have HKA := Hid.mk' ((Keeps.refl (fun _ => False) w2).alloc (.cells (scell t (.slice p2 t.l.length c2)) 24)); have HBA := Hid.mk' (heap_last w2 (.cells (scell t (.slice p2 t.l.length c2)) 24)); have HV2 := Hid.mk' (hv.keep (HK1.out.trans (H2.out.2.trans HKA.out))); have S4 := Hid.mk' True.intro)
    | (clear S4; refine wpList_alloc_st rfl rfl ?_; have S5 := Hid.mk' True.intro)
    | (clear S5; refine wpList_store_st rfl _ _ rfl t p2 t.l.length c2 (by rfl) (by rfl) ?_; have S6 := Hid.mk' True.intro)
    | (clear S6; refine wpList_load_row rfl 24 (.tmp 5) rfl w2.heap.size (by rfl) 24 (scell t (.slice p2 t.l.length c2)) (0, 0) _ HBA.out Tryd.underlying24 rfl size24 ?_; have S7 := Hid.mk' True.intro)
    | (clear S7; go_at_call 10; refine (hp _ HV2.out _ ((Row.of_own H2.out.1).keep HKA.out)).mono ?_; rintro e w3 ⟨rfl, hk3⟩; have HK3 := Hid.mk' hk3; clear hk3; have HV3 := Hid.mk' (HV2.out.keep HK3.out); have S8 := Hid.mk' True.intro)
    | (clear S8; go_at_call 8; refine (hl2 _ HV3.out).mono ?_; clear hl2; rintro e w4 ⟨v4, rfl, h4⟩; obtain ⟨p4, c4, hv4, _, _⟩ := id (Row.of_own h4.out.1); subst hv4; have H4 := Hid.mk' h4.out; clear h4; have HKB := Hid.mk' ((Keeps.refl (fun _ => False) w4).alloc (.cells (scell t (.slice p4 t.l.length c4)) 24)); have HKA4 := Hid.mk' (HK3.out.trans (H4.out.2.trans HKB.out)); have HV4 := Hid.mk' (HV3.out.keep (H4.out.2.trans HKB.out)); have f0 := HKA4.out.cell (new_cell w2 (scell t (.slice p2 t.l.length c2)) 24 0 (.int .i64 t.kind) rfl) id; have f1 := HKA4.out.cell (new_cell w2 (scell t (.slice p2 t.l.length c2)) 24 1 (.string t.a) rfl) id; have f2 := HKA4.out.cell (new_cell w2 (scell t (.slice p2 t.l.length c2)) 24 2 (.string t.b) rfl) id; have f3 := HKA4.out.cell (new_cell w2 (scell t (.slice p2 t.l.length c2)) 24 3 (.int .i64 t.n) rfl) id; have f4 := HKA4.out.cell (new_cell w2 (scell t (.slice p2 t.l.length c2)) 24 4 (.int .i64 t.m) rfl) id; have f5 := HKA4.out.cell (new_cell w2 (scell t (.slice p2 t.l.length c2)) 24 5 (.int .i64 t.k) rfl) id; have f6 := HKA4.out.cell (new_cell w2 (scell t (.slice p2 t.l.length c2)) 24 6 (.slice p2 t.l.length c2) rfl) id; have b0 := (Keeps.refl (fun _ => False) _).cell (new_cell w4 (scell t (.slice p4 t.l.length c4)) 24 0 (.int .i64 t.kind) rfl) id; have b1 := (Keeps.refl (fun _ => False) _).cell (new_cell w4 (scell t (.slice p4 t.l.length c4)) 24 1 (.string t.a) rfl) id; have b2 := (Keeps.refl (fun _ => False) _).cell (new_cell w4 (scell t (.slice p4 t.l.length c4)) 24 2 (.string t.b) rfl) id; have b3 := (Keeps.refl (fun _ => False) _).cell (new_cell w4 (scell t (.slice p4 t.l.length c4)) 24 3 (.int .i64 t.n) rfl) id; have b4 := (Keeps.refl (fun _ => False) _).cell (new_cell w4 (scell t (.slice p4 t.l.length c4)) 24 4 (.int .i64 t.m) rfl) id; have b5 := (Keeps.refl (fun _ => False) _).cell (new_cell w4 (scell t (.slice p4 t.l.length c4)) 24 5 (.int .i64 t.k) rfl) id; have b6 := (Keeps.refl (fun _ => False) _).cell (new_cell w4 (scell t (.slice p4 t.l.length c4)) 24 6 (.slice p4 t.l.length c4) rfl) id; have S9 := Hid.mk' True.intro)
    | (clear S9; refine wpList_alloc_st rfl rfl ?_; have T0 := Hid.mk' True.intro)
    | (clear T0; refine wpList_store_st rfl _ _ rfl t p4 t.l.length c4 (by rfl) (by rfl) ?_; have T1 := Hid.mk' True.intro)
    | (clear T1; go_at_call 9; refine (lsame_any _ t t _ _ ((Row.of_own H2.out.1).keep (HKA.out.trans HKA4.out)) ((Row.of_own H4.out.1).keep HKB.out) (by have h : t.l.length ≤ 20000 := HLL2.out; omega)).mono ?_; rintro e w5 ⟨rfl, hk5⟩; have HK5 := Hid.mk' hk5; clear hk5; rw [HSM.out]; have g0 := HK5.out.cell (new_cell w4 (scell t (.slice p4 t.l.length c4)) 24 0 (.int .i64 t.kind) rfl) id; have g1 := HK5.out.cell (new_cell w4 (scell t (.slice p4 t.l.length c4)) 24 1 (.string t.a) rfl) id; have g2 := HK5.out.cell (new_cell w4 (scell t (.slice p4 t.l.length c4)) 24 2 (.string t.b) rfl) id; have g3 := HK5.out.cell (new_cell w4 (scell t (.slice p4 t.l.length c4)) 24 3 (.int .i64 t.n) rfl) id; have g4 := HK5.out.cell (new_cell w4 (scell t (.slice p4 t.l.length c4)) 24 4 (.int .i64 t.m) rfl) id; have g5 := HK5.out.cell (new_cell w4 (scell t (.slice p4 t.l.length c4)) 24 5 (.int .i64 t.k) rfl) id; have g6 := HK5.out.cell (new_cell w4 (scell t (.slice p4 t.l.length c4)) 24 6 (.slice p4 t.l.length c4) rfl) id; have T2 := Hid.mk' True.intro)
    | (clear T2; go_at_call 10; refine (hp _ (HV4.out.keep HK5.out) _ ((Row.of_own H4.out.1).keep (HKB.out.trans HK5.out))).mono ?_; rintro e w6 ⟨rfl, hk6⟩; have HK6 := Hid.mk' hk6; clear hk6; have T3 := Hid.mk' True.intro))
    go_ret
    exact ⟨rfl, (((HK1.out.trans (H2.out.2.trans HKA.out)).trans HKA4.out).trans HK5.out).trans HK6.out⟩
  · obtain ⟨b1, b2⟩ := back_no hE
    rw [b1] at hl1
    have b3 : (lnE s.data.toList == 191) = decide ((20000 : Int) < (s.size : Int)) := by
      rw [size_len]
      by_cases h : lnE s.data.toList = 191
      · rw [h, decide_eq_true (by have := b2.1 h; omega)]; rfl
      · rw [beq_eq_false_iff_ne.2 h, decide_eq_false (fun h2 => h (b2.2 (by omega)))]
    have hE' : (lnE s.data.toList != 0) = true := bne_iff_ne.2 hE
    have HSM : Hid (smF (st0 0) (st0 0) = true) := smF_refl _
    clear b1 b2 HLL HSZ
    generalize lnE s.data.toList = E at *
    generalize hD : decide ((20000 : Int) < (s.size : Int)) = D at *
    have HZR := fun W => Hid.mk' (show Row W (.slice none 0 0) (st0 0).l.length (ints (st0 0).l) from ⟨none, 0, rfl, Nat.le_refl _, fun h => absurd h (by decide)⟩)
    go_enter Tryd.func3, Tryd.ntmps3
    have S0 := Hid.mk' True.intro
    go_wp2_with (first
    | (clear S0; go_at_call 8; refine (hl0 w hv).mono ?_; clear hl0; rintro e w1 ⟨v1, rfl, h1⟩; obtain ⟨p1, c1, hv1, _, _⟩ := id (Row.of_own h1.out.1); subst hv1; have H1 := Hid.mk' h1.out; clear h1; have HK1 := Hid.mk' (H1.out.2.trans ((Keeps.refl (fun _ => False) w1).alloc (.cells (scell litT (.slice p1 litT.l.length c1)) 24))); have a0 := new_cell w1 (scell litT (.slice p1 litT.l.length c1)) 24 0 (.int .i64 11) rfl; have a1 := new_cell w1 (scell litT (.slice p1 litT.l.length c1)) 24 1 (.string ⟨#[47, 97]⟩) rfl; have a2 := new_cell w1 (scell litT (.slice p1 litT.l.length c1)) 24 2 (.string ⟨#[65, 98]⟩) rfl; have a3 := new_cell w1 (scell litT (.slice p1 litT.l.length c1)) 24 3 (.int .i64 (-5)) rfl; have S1 := Hid.mk' True.intro)
    | (clear S1; refine wpList_alloc_st rfl rfl ?_; have S2 := Hid.mk' True.intro)
    | (clear S2; refine wpList_store_st rfl _ _ rfl litT p1 litT.l.length c1 (by rfl) (by rfl) ?_; have S3 := Hid.mk' True.intro)
    | (clear S3; go_at_call 8; refine (hl1 _ (hv.keep HK1.out)).mono ?_; clear hl1; rintro e w2 ⟨v2, rfl, h2⟩; obtain ⟨p2, c2, hv2, _, _⟩ := id (Row.of_own h2.out.1); subst hv2; have H2 := Hid.mk' h2.out; clear h2; have HKA := Hid.mk' ((Keeps.refl (fun _ => False) w2).alloc (.cells (scell (st0 0) (.slice p2 (st0 0).l.length c2)) 24)); have HBA := Hid.mk' (heap_last w2 (.cells (scell (st0 0) (.slice p2 (st0 0).l.length c2)) 24)); have S4 := Hid.mk' True.intro)
    | (clear S4; refine wpList_alloc_st rfl rfl ?_; have S5 := Hid.mk' True.intro)
    | (clear S5; refine wpList_store_st rfl _ _ rfl (st0 0) p2 (st0 0).l.length c2 (by rfl) (by rfl) ?_; have S6 := Hid.mk' True.intro)
    | (clear S6; refine wpList_load_row rfl 24 (.tmp 5) rfl w2.heap.size (by rfl) 24 (scell (st0 0) (.slice p2 (st0 0).l.length c2)) (0, 0) _ HBA.out Tryd.underlying24 rfl size24 ?_; have S7 := Hid.mk' True.intro)
    | (clear S7; go_at_call 9; refine (lsame_any _ (st0 0) (st0 0) _ _ ((Row.of_own H2.out.1).keep HKA.out) (HZR _).out (by show (0 : Nat) ≤ _; omega)).mono ?_; rintro e w5 ⟨rfl, hk5⟩; have HK5 := Hid.mk' hk5; clear hk5; rw [HSM.out]; have T2 := Hid.mk' True.intro))
    go_ret
    exact ⟨by cases D <;> rfl, (HK1.out.trans (H2.out.2.trans HKA.out)).trans HK5.out⟩
end Go.Proofs.YtngoifbflpeapabDoor

