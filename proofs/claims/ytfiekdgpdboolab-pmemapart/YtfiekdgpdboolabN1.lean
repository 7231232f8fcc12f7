import Derived.Test.YtfiekdgpdboolabM2
namespace Go.Proofs.Ytfiekdgpdboolab
open Go.RowKit Go.Maps

set_option maxHeartbeats 400000 in
theorem sameWords_yes (ga gb n ca cb : Nat) (bs : List Int) (w : World) (ha : ∀ i, i < n → w.cell? ⟨ga, i, none⟩ = some (.int .u64 (bs.getD i 0))) (hb : ∀ i, i < n → w.cell? ⟨gb, i, none⟩ = some (.int .u64 (bs.getD i 0))) (_hn : n ≤ 1000000000) :
    Calls Try.prog 39 #[.slice (some ⟨ga, 0, none⟩) n ca, .slice (some ⟨gb, 0, none⟩) n cb] w fun e w' => e = .returned (.bool true) ∧ ∃ q, w' = w.drewN q := by
  have HA := Hid.mk' ha
  have HB := Hid.mk' hb
  clear ha hb
  go_enter Try.func39, Try.ntmps39
  go_wp2
  go_loopw [5] (fun i wr => ∃ k : Nat, k ≤ n ∧ i = .int .i64 k ∧ ∃ q, wr = w.drewN q) (fun i _ => n - (intOf i).toNat)
  case atStart => exact ⟨0, by omega, rfl, 0, rfl⟩
  case round =>
    obtain ⟨k, hk, rfl, q, rfl⟩ := hrel
    by_cases hlt : k < n
    · have h1 := HA.out k hlt
      have h2 := HB.out k hlt
      have h3 : (0 : Int) ≤ (k : Int) := by omega
      have h4 : (k : Int) < (n : Int) := by omega
      generalize bs.getD k 0 = x at h1 h2
      go_upto_region 6 with fail
      go_quiet (fail)
      go_wp2
      go_roundw
      case rel => exact ⟨k + 1, by omega, by go_num, _, rfl⟩
      case measure => simp [intOf]; omega
    · obtain rfl : k = n := by omega
      go_wp2
      go_ret
      exact ⟨rfl, q, rfl⟩

theorem cells_u64 {w : World} {g : Nat} {bs : List Int} (h : w.heap[g]? = some (.cells (u64s bs).toArray 47 (0, 0))) : ∀ i, i < bs.length → w.cell? ⟨g, i, none⟩ = some (.int .u64 (bs.getD i 0)) := by
  intro i hi
  simp [World.cell?, h, u64s, List.getD_eq_getElem?_getD, hi]

theorem keeps_drewN' (X : Nat → Prop) (w w' : World) (q : Nat) (h : w' = w.drewN q) : Keeps X w w' := by
  subst h
  exact ⟨rfl, rfl, rfl, Nat.le_refl _, fun _ _ _ => rfl⟩

theorem doubtCells_get (S : St) (ng : Int → Nat) (ks : List Int) (i : Nat) (hi : i < ks.length) :
    (doubtCells S ng ks)[i * 3]? = some (.int .i64 (ks.getD i 0)) ∧ (doubtCells S ng ks)[i * 3 + 1]? = some (.int .u64 (wordAt S.old (ks.getD i 0).toNat)) ∧
    (doubtCells S ng ks)[i * 3 + 2]? = some (.slice (some ⟨ng (ks.getD i 0), 0, none⟩) (S.pd (ks.getD i 0)).length (S.pd (ks.getD i 0)).length) := by
  induction ks generalizing i with
  | nil => simp at hi
  | cons a l ih =>
    have e : doubtCells S ng (a :: l) = [.int .i64 a, .int .u64 (wordAt S.old a.toNat), .slice (some ⟨ng a, 0, none⟩) (S.pd a).length (S.pd a).length] ++ doubtCells S ng l := by simp [doubtCells]
    rw [e]
    cases i with
    | zero => simp
    | succ i =>
      have hi' : i < l.length := by simpa using hi
      obtain ⟨h1, h2, h3⟩ := ih i hi'
      have e1 : (a :: l).getD (i + 1) 0 = l.getD i 0 := by simp [List.getD_eq_getElem?_getD]
      rw [e1]
      refine ⟨?_, ?_, ?_⟩
      · rw [List.getElem?_append_right (by simp; omega), ← h1]; congr 1; simp; omega
      · rw [List.getElem?_append_right (by simp; omega), ← h2]; congr 1; simp; omega
      · rw [List.getElem?_append_right (by simp; omega), ← h3]; congr 1; simp; omega

set_option maxHeartbeats 1000000 in
set_option maxRecDepth 20000 in
theorem alike_yes (w : World) (F1 F2 : Nat → Prop) (d u n : Nat) (S1 S2 : St) (L1 L2 : Lay) (h1 : DevAt w F1 d S1 L1) (h2 : DevAt w F2 u S2 L2) (ho : S2.old = S1.old) (hp : S2.pd = S1.pd) (hn : S1.old.length = n) (hn0 : 8 ≤ n) (hs1 : S1.steps ≤ 900000000) (hs2 : S2.steps ≤ 900000000) :
    Calls Try.prog 19 #[.pointer (some ⟨d, 0, none⟩), .pointer (some ⟨u, 0, none⟩)] w fun e w' => e = .returned (.bool true) ∧ Keeps (fun _ => False) w w' := by
  have hsz := h1.size
  have hnn : n ≤ 524288 := by omega
  have HD := Hid.mk' (show DevAt w F1 d S1 L1 ∧ DevAt w F2 u S2 L2 from ⟨h1, h2⟩)
  have hv1 := view_dev w F1 d S1 L1 h1 hs1
  rw [hn] at hv1
  have hn2 : S2.old.length = n := by rw [ho]; exact hn
  have HE := Hid.mk' (show S2.old = S1.old ∧ S2.pd = S1.pd ∧ S1.old.length = n ∧ S2.old.length = n ∧ S2.view = S1.view ∧ S1.view.length = n ∧ S1.steps ≤ 900000000 ∧ S2.steps ≤ 900000000 from ⟨ho, hp, hn, hn2, by unfold St.view St.viewTo St.viewIn; rw [ho, hp], by rw [St.view, viewTo_len]; exact hn, hs1, hs2⟩)
  clear h1 h2 ho hp hn hn2 hs1 hs2 hsz
  go_enter Try.func19, Try.ntmps19
  go_wp2_with (first
    | (go_at_call 24; refine hv1.mono ?_; rintro e w1 ⟨rfl, hb1, hk1⟩
       clear hv1
       have hd1 := HD.out.1.kept hk1 (by simp)
       have hu1 := HD.out.2.kept hk1 (by simp)
       have hv2 := view_dev w1 F2 u S2 L2 hu1 HE.out.2.2.2.2.2.2.2
       rw [HE.out.2.2.2.1, HE.out.2.2.2.2.1] at hv2
       have H1 := Hid.mk' (show DevAt w1 F1 d S1 L1 ∧ DevAt w1 F2 u S2 L2 ∧ w1.heap[w.heap.size]? = some (.cells (u8s S1.view).toArray 5 (0, 0)) ∧ Keeps (fun _ => False) w w1 from ⟨hd1, hu1, hb1, hk1⟩)
       clear hb1 hk1 hd1 hu1)
    | (go_at_call 24; refine hv2.mono ?_; rintro e w2 ⟨rfl, hb2, hk2⟩
       clear hv2
       obtain ⟨q1, q2, q3, q4⟩ := H1.out
       have hb1 := (hk2.block _ (heap_lt q3) (by simp)).trans q3
       have hsm := same_yes w.heap.size w1.heap.size n n n S1.view w2 (fun i hi => cells_u8 hb1 i (by have := HE.out.2.2.2.2.2.1; omega)) (fun i hi => cells_u8 hb2 i (by have := HE.out.2.2.2.2.2.1; omega)) (by omega)
       have H2 := Hid.mk' (show DevAt w2 F1 d S1 L1 ∧ DevAt w2 F2 u S2 L2 ∧ Keeps (fun _ => False) w w2 from ⟨q1.kept hk2 (by simp), q2.kept hk2 (by simp), q4.trans hk2⟩)
       clear hb2 hk2 q1 q2 q3 q4 hb1)
    | (go_at_call 38; refine hsm.mono ?_; rintro e w3 ⟨rfl, qq, hw3⟩
       clear hsm
       obtain ⟨q1, q2, q3⟩ := H2.out
       have kk := keeps_drewN' (fun _ => False) _ _ _ hw3
       have hd3 := q1.kept kk (by simp)
       have hdo := doubts_dev w3 F1 d S1 L1 hd3 HE.out.2.2.2.2.2.2.1
       have H3 := Hid.mk' (show DevAt w3 F1 d S1 L1 ∧ DevAt w3 F2 u S2 L2 ∧ Keeps (fun _ => False) w w3 from ⟨hd3, q2.kept kk (by simp), q3.trans kk⟩)
       clear q1 q2 q3 kk hd3 hw3)
    | (go_at_call 27; refine hdo.mono ?_; rintro e w4 ⟨v, ks, ng, rfl, hR, hrow, hng, hk4, hjl0⟩
       clear hdo
       obtain ⟨q1, q2, q3⟩ := H3.out
       have hu4 := q2.kept hk4 (by simp)
       have hdo2 := doubts_dev w4 F2 u S2 L2 hu4 HE.out.2.2.2.2.2.2.2
       have H4 := Hid.mk' (show DevAt w4 F1 d S1 L1 ∧ DevAt w4 F2 u S2 L2 ∧ Keeps (fun _ => False) w w4 ∧ Rising S1 ks ∧ w4.ownsRow w3.heap.size 82 3 v ks.length (doubtCells S1 ng ks) ∧ (∀ a ∈ ks, w3.heap.size ≤ ng a ∧ w4.heap[ng a]? = some (.cells (u64s (S1.pd a)).toArray 47 (0, 0))) from ⟨q1.kept hk4 (by simp), hu4, q3.trans hk4, hR, hrow, hng⟩)
       obtain ⟨pa, ca, hva⟩ : ∃ pa ca, v = .slice pa ks.length ca := by
         rcases hrow.2 with ⟨e1, e2⟩ | ⟨g, cp, cur, e1, _⟩
         · exact ⟨none, 0, by rw [e1, e2]⟩
         · exact ⟨_, _, e1⟩
       subst hva
       clear q1 q2 q3 hR hrow hng hk4 hu4)
    | (go_at_call 27; refine hdo2.mono ?_; rintro e w5 ⟨v2, js, mg, rfl, hR2, hrow2, hng2, hk5, hjl2⟩
       have HJL0 := Hid.mk' hjl2
       clear hjl0 hjl2
       clear hdo2
       have ejs : js = ks := by
         have hR' : Rising S1 js := ⟨hR2.1, fun a => by rw [← HE.out.2.1]; exact hR2.2 a⟩
         exact rising_unique hR' H4.out.2.2.2.1
       subst ejs
       obtain ⟨pb, cb, hvb⟩ : ∃ pb cb, v2 = .slice pb js.length cb := by
         rcases hrow2.2 with ⟨e1, e2⟩ | ⟨g, cp, cur, e1, _⟩
         · exact ⟨none, 0, by rw [e1, e2]⟩
         · exact ⟨_, _, e1⟩
       subst hvb
       have H5 := Hid.mk' (show w5.ownsRow w4.heap.size 82 3 (.slice pb js.length cb) js.length (doubtCells S2 mg js) ∧ (∀ a ∈ js, w4.heap.size ≤ mg a ∧ w5.heap[mg a]? = some (.cells (u64s (S2.pd a)).toArray 47 (0, 0))) ∧ Keeps (fun _ => False) w4 w5 from ⟨hrow2, hng2, hk5⟩)
       clear hR2 hrow2 hng2 hk5))
  have HW : Hid (Keeps (fun _ => False) w w5 ∧ DevAt w5 F1 d S1 L1 ∧ DevAt w5 F2 u S2 L2) := ⟨H4.out.2.2.1.trans H5.out.2.2, H4.out.1.kept H5.out.2.2 (by simp), H4.out.2.1.kept H5.out.2.2 (by simp)⟩
  have HROW : Hid (0 < js.length → ∃ ga gb, pa = some ⟨ga, 0, none⟩ ∧ pb = some ⟨gb, 0, none⟩ ∧ ∀ i, i < js.length →
      w5.cell? ⟨ga, i * 3, none⟩ = some (.int .i64 (js.getD i 0)) ∧ w5.cell? ⟨ga, i * 3 + 1, none⟩ = some (.int .u64 (wordAt S1.old (js.getD i 0).toNat)) ∧ w5.cell? ⟨ga, i * 3 + 2, none⟩ = some (.slice (some ⟨ng (js.getD i 0), 0, none⟩) (S1.pd (js.getD i 0)).length (S1.pd (js.getD i 0)).length) ∧
      w5.cell? ⟨gb, i * 3, none⟩ = some (.int .i64 (js.getD i 0)) ∧ w5.cell? ⟨gb, i * 3 + 1, none⟩ = some (.int .u64 (wordAt S1.old (js.getD i 0).toNat)) ∧ w5.cell? ⟨gb, i * 3 + 2, none⟩ = some (.slice (some ⟨mg (js.getD i 0), 0, none⟩) (S1.pd (js.getD i 0)).length (S1.pd (js.getD i 0)).length) ∧
      (∀ j, j < (S1.pd (js.getD i 0)).length → w5.cell? ⟨ng (js.getD i 0), j, none⟩ = some (.int .u64 ((S1.pd (js.getD i 0)).getD j 0))) ∧ (∀ j, j < (S1.pd (js.getD i 0)).length → w5.cell? ⟨mg (js.getD i 0), j, none⟩ = some (.int .u64 ((S1.pd (js.getD i 0)).getD j 0))) ∧ ((S1.pd (js.getD i 0)).length : Int) ≤ 900000000) := by
    intro h0
    obtain ⟨f1, f2, f3, f4, f5, f6⟩ := H4.out
    obtain ⟨t1, t2, t3⟩ := H5.out
    have r1 := t3.row f5 (by simp)
    have hr2 := t1
    rcases r1.2 with ⟨_, e2⟩ | ⟨ga, cpa, cura, e1, _⟩
    · omega
    rcases hr2.2 with ⟨_, e2⟩ | ⟨gb, cpb, curb, e3, _⟩
    · omega
    cases e1
    cases e3
    refine ⟨ga, gb, rfl, rfl, fun i hi => ?_⟩
    obtain ⟨a1, a2, a3⟩ := doubtCells_get S1 ng js i hi
    obtain ⟨b1, b2, b3⟩ := doubtCells_get S2 mg js i hi
    rw [HE.out.1] at b2
    rw [HE.out.2.1] at b3
    have hmem : js.getD i 0 ∈ js := by rw [List.getD_eq_getElem?_getD, List.getElem?_eq_getElem hi]; exact List.getElem_mem _
    have n1 := (t3.block _ (heap_lt (f6 _ hmem).2) (by simp)).trans (f6 _ hmem).2
    have n2 := (t2 _ hmem).2
    rw [HE.out.2.1] at n2
    refine ⟨(r1.cellAt _ (by omega)).trans a1, (r1.cellAt _ (by omega)).trans a2, (r1.cellAt _ (by omega)).trans a3, (hr2.cellAt _ (by omega)).trans b1, (hr2.cellAt _ (by omega)).trans b2, (hr2.cellAt _ (by omega)).trans b3, fun j hj => ?_, fun j hj => ?_, ?_⟩
    · exact cells_u64 n1 j hj
    · exact cells_u64 n2 j hj
    · have := f1.lens (js.getD i 0); have h9 := HE.out.2.2.2.2.2.2.1; omega
  have HJL : Hid (js.length ≤ 1000000000) := HJL0
  go_loopw [7] (fun i wr => ∃ k : Nat, k ≤ js.length ∧ i = .int .i64 k ∧ Hid (∃ q, wr = w5.drewN q)) (fun i _ => js.length - (intOf i).toNat)
  case atStart => exact ⟨0, by omega, rfl, 0, rfl⟩
  case round =>
    obtain ⟨k, hk, rfl, hrel⟩ := hrel
    have hjl := HJL.out
    by_cases hlt : k < js.length
    · obtain ⟨ga, gb, rfl, rfl, hcc⟩ := HROW.out (by omega)
      obtain ⟨q, hq⟩ := hrel
      have hcell : ∀ a, wr.cell? a = w5.cell? a := fun a => by rw [hq]; rfl
      obtain ⟨a1, a2, a3, b1, b2, b3, c1, c2, c3⟩ := hcc k hlt
      rw [← hcell] at a1 a2 a3 b1 b2 b3
      have hsw := fun nn => sameWords_yes (ng (js.getD k 0)) (mg (js.getD k 0)) (S1.pd (js.getD k 0)).length (S1.pd (js.getD k 0)).length (S1.pd (js.getD k 0)).length (S1.pd (js.getD k 0)) (wr.drewN nn) (fun i hi => (hcell _).trans (c1 i hi)) (fun i hi => (hcell _).trans (c2 i hi)) (by omega)
      have HQ := Hid.mk' hq
      generalize ng (js.getD k 0) = gx at *
      generalize mg (js.getD k 0) = gy at *
      generalize (S1.pd (js.getD k 0)).length = ln at *
      generalize wordAt S1.old (js.getD k 0).toNat = ow at *
      generalize js.getD k 0 = av at *
      have h3 : (0 : Int) ≤ (k : Int) := by omega
      have h4 : (k : Int) < (js.length : Int) := by omega
      clear hcc hcell c1 c2 c3 hq
      go_upto_region 10 with fail
      go_quiet ((go_at_call 39; exact Calls.quiet_of (hsw _)))
      go_wp2
      go_roundw
      case rel => exact ⟨k + 1, by omega, by go_num, by obtain ⟨q0, e0⟩ : ∃ q0, wr = w5.drewN q0 := ⟨_, HQ.out⟩; rw [e0]; exact ⟨_, by simp; rfl⟩⟩
      case measure => simp [intOf]; omega
    · obtain rfl : k = js.length := by omega
      obtain ⟨q, hq⟩ := hrel
      have kk := keeps_drewN' (fun _ => False) _ _ _ hq
      have hd6 := HW.out.2.1.kept kk (by simp)
      have hcr := crash_dev wr F1 d S1 L1 hd6 HE.out.2.2.2.2.2.2.1 (by have := HE.out.2.2.1; omega) none 0 [] (by simp) (fun h => absurd h (by simp))
      rw [HE.out.2.2.1] at hcr
      have H6 := Hid.mk' (show Keeps (fun _ => False) w wr ∧ DevAt wr F2 u S2 L2 from ⟨HW.out.1.trans kk, HW.out.2.2.kept kk (by simp)⟩)
      clear hq kk hd6
      go_wp2_with (first
        | (go_at_call 23; refine hcr.mono ?_; rintro e w7 ⟨is, hR7, rfl, hb7, hk7⟩
           clear hcr
           have e7 : S1.crash is [] = S1.old := by simp [St.crash]
           rw [e7] at hb7
           have hu7 := H6.out.2.kept hk7 (by simp)
           have hcr2 := crash_dev w7 F2 u S2 L2 hu7 HE.out.2.2.2.2.2.2.2 (by have := HE.out.2.2.2.1; omega) none 0 [] (by simp) (fun h => absurd h (by simp))
           rw [HE.out.2.2.2.1] at hcr2
           have H7 := Hid.mk' (show Keeps (fun _ => False) w w7 ∧ w7.heap[wr.heap.size]? = some (.cells (u8s S1.old).toArray 5 (0, 0)) from ⟨H6.out.1.trans hk7, hb7⟩)
           clear hR7 hb7 hk7 e7 hu7)
        | (go_at_call 23; refine hcr2.mono ?_; rintro e w8 ⟨is2, hR8, rfl, hb8, hk8⟩
           clear hcr2
           have e8 : S2.crash is2 [] = S1.old := by rw [← HE.out.1]; simp [St.crash]
           rw [e8] at hb8
           have hb7 := (hk8.block _ (heap_lt H7.out.2) (by simp)).trans H7.out.2
           have hsm8 := same_yes wr.heap.size w7.heap.size n n n S1.old w8 (fun i hi => cells_u8 hb7 i (by have := HE.out.2.2.1; omega)) (fun i hi => cells_u8 hb8 i (by have := HE.out.2.2.1; omega)) (by omega)
           have H8 := Hid.mk' (H7.out.1.trans hk8)
           clear hR8 hb8 hk8 e8 hb7)
        | (go_at_call 38; refine hsm8.mono ?_; rintro e w9 ⟨rfl, q9, hw9⟩
           clear hsm8
           have H9 := Hid.mk' (H8.out.trans (keeps_drewN' (fun _ => False) _ _ _ hw9))
           clear hw9))
      go_ret
      exact ⟨rfl, H9.out⟩

end Go.Proofs.Ytfiekdgpdboolab
