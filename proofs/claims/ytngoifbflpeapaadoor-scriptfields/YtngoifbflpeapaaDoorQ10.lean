import Derived.Test.YtngoifbflpeapaaDoorQ2
import Derived.Test.YtngoifbflpeapaaDoorQ4
import Derived.Test.YtngoifbflpeapaaDoorQ9
import Derived.Test.YtngoifbflpeapaaDoorP13
import Derived.Deep.CutBlock
import Derived.Deep.DeepCutAuto
namespace Go.Proofs.YtngoifbflpeapaaDoor
open Go.RowKit Go.Maps
set_option maxRecDepth 100000

/-! P19.5: a step with a field that its kind doesn't have has no line. -/
theorem tmod6 (n : Int) : -5 ≤ n.tmod 6 ∧ n.tmod 6 ≤ 5 := by
  have h1 := Int.natAbs_tmod n 6
  have h2 := Nat.mod_lt n.natAbs (show 0 < 6 by decide)
  have h3 : (n.tmod 6).natAbs ≤ 5 := by rw [h1]; show n.natAbs % 6 ≤ 5; omega
  omega
theorem Keeps.after {X : Nat → Prop} {a b c : World} (h : Keeps (fun _ => False) a b) (k : Keeps X b c) (hx : ∀ g, X g → a.heap.size ≤ g) : Keeps (fun _ => False) a c :=
  ⟨k.os.trans h.os, k.tape.trans h.tape, k.output.trans h.output, Nat.le_trans h.size k.size, fun i hi hr => (k.block i (Nat.lt_of_lt_of_le hi h.size) (fun h2 => absurd hi (by have := hx i h2; omega))).trans (h.block i hi hr)⟩
theorem kd_num : ∀ k ∈ kds, 1 ≤ k.num ∧ k.num ≤ 21 := by decide
theorem cut_kind (t : St) : (cutF t).kind = (kdF t.kind).num ∧ kdF t.kind ∈ kds ∧ 1 ≤ (cutF t).kind ∧ (cutF t).kind ≤ 21 := by
  have h := kdF_in t.kind
  have e : (cutF t).kind = (kdF t.kind).num := by
    show (bkS (kdF t.kind) t).kind = _
    exact bkS_kind _ h.2.1 t
  have := kd_num _ h.2.1
  exact ⟨e, h.2.1, by omega, by omega⟩
theorem shF_len (t : St) : (shF t).l.length ≤ t.l.length := by
  have hk := (kdF_in t.kind).2.1
  unfold shF
  generalize kdF t.kind = k at hk
  simp only [kds, List.mem_cons, List.not_mem_nil, or_false] at hk
  rcases hk with rfl | rfl | rfl | rfl | rfl | rfl | rfl | rfl | rfl | rfl | rfl | rfl | rfl | rfl | rfl | rfl | rfl | rfl | rfl | rfl | rfl <;> first | exact Nat.le_refl _ | exact Nat.zero_le _
theorem print_no {t : St} (ho : OkS t) (h : t.kind < 1 ∨ 21 < t.kind) (W : World) (hv : Vars W) (v : Value) (hr : Row W v t.l.length (ints t.l)) : Calls Tryd.prog 6 #[.agg (scell t v)] W fun e w' => e = .returned (.string ⟨#[]⟩) ∧ Keeps (fun _ => False) W w' := by
  have := print_any W hv t v hr ho (wrF_le ho)
  rw [no_line h] at this
  exact this
theorem okS_kind {t : St} (ho : OkS t) (n : Int) : OkS { t with kind := n } := ⟨ho.a, ho.b, ho.n, ho.m, ho.k, ho.l, ho.o⟩

set_option maxHeartbeats 16000000 in
theorem fields_walk (w : World) (hv : Vars w) (t : St) (v : Value) (hr : Row w v t.l.length (ints t.l)) (hk0 : -9223372036854775808 ≤ t.kind ∧ t.kind ≤ 9223372036854775807) (hl : t.l.length ≤ 17592186044416) (hi : InS t) (n : Int) (_hn : -9223372036854775808 ≤ n ∧ n ≤ 9223372036854775807) :
    Calls Tryd.prog 4 #[.agg (scell t v), .int .i64 n] w fun e w' => e = .returned (.bool true) ∧ Keeps (fun _ => False) w w' := by
  obtain ⟨p, c, rfl, _, _⟩ := id hr
  have HV := Hid.mk' hv
  have HK0 := Hid.mk' ((Keeps.refl (fun _ => False) w).alloc (.cells (scell t (.slice p t.l.length c)) 24))
  have hcut := cut_any _ t _ (hr.keep HK0.out) hk0 hl
  have HOK := Hid.mk' (cut_ok hi)
  have hpr := fun W h v hr => print_any W h (cutF t) v hr HOK.out.1 (wrF_le HOK.out.1)
  have n1 : (mkB (prF (cutF t))).toList.isEmpty = false := by
    rw [List.isEmpty_eq_false_iff, ByteArray.toList_eq, data_mkB]; exact (cut_round hi 0 0 (by omega)).2.1
  obtain ⟨hkn, hkm, hk1, hk2⟩ := cut_kind t
  have HU := Hid.mk' (fU_ok HOK.out.1 HOK.out.2 (n.tmod 6))
  have HHL := Hid.mk' (has_line HU.out.1 HU.out.2 hkm (by rw [fU_kind]; exact hkn))
  have HKU : Hid ((fU (n.tmod 6) (cutF t)).kind = (cutF t).kind) := fU_kind _ _
  have HPV := Hid.mk' (print_no (okS_kind HOK.out.1 ((cutF t).kind + 21)) (Or.inr (by show 21 < (cutF t).kind + 21; omega)))
  have HPW := Hid.mk' (print_no (okS_kind HOK.out.1 (-(cutF t).kind)) (Or.inl (by show -(cutF t).kind < 1; omega)))
  have HPZ := Hid.mk' (print_no (st0_ok 0) (Or.inl (by show (0 : Int) < 1; decide)))
  have HS := Hid.mk' HOK.out.2
  have hb6 := tmod6 n
  clear hr hl hk0 hi hkn hkm
  generalize cutF t = ct at *
  generalize mkB (prF ct) = L at *
  have HFU : Hid (fU (n.tmod 6) ct = fU (n.tmod 6) ct) := rfl
  unfold scell at HK0 hcut
  unfold scell
  go_enter Tryd.func4, Tryd.ntmps4
  have S0 := Hid.mk' True.intro
  go_upto_block 0 with (first
    | (clear S0; go_at_call 5; refine hcut.mono ?_; clear hcut; rintro e w1 ⟨v1, rfl, h1⟩; obtain ⟨p1, c1, hv1, _, _⟩ := id h1.out.1; subst hv1; have H1 := Hid.mk' h1.out; clear h1; have HKA := Hid.mk' ((Keeps.refl (fun _ => False) w1).alloc (.cells (scell ct (.slice p1 ct.l.length c1)) 24)); have HBA := Hid.mk' (heap_last w1 (.cells (scell ct (.slice p1 ct.l.length c1)) 24)); have HKW := Hid.mk' ((HK0.out.trans H1.out.2).trans HKA.out); have HVA := Hid.mk' (HV.out.keep HKW.out); have HRA := Hid.mk' (H1.out.1.keep HKA.out); have S1 := Hid.mk' True.intro)
    | (clear S1; refine wpList_alloc_st rfl rfl ?_; have S2 := Hid.mk' True.intro)
    | (clear S2; refine wpList_store_st rfl _ _ rfl ct p1 ct.l.length c1 (by rfl) (by rfl) ?_; have S3 := Hid.mk' True.intro)
    | (clear S3; refine wpList_load_row rfl 24 (.tmp 5) rfl w1.heap.size (by rfl) 24 (scell ct (.slice p1 ct.l.length c1)) (0, 0) _ HBA.out Tryd.underlying24 rfl size24 ?_; have S4 := Hid.mk' True.intro)
    | (clear S4; go_at_call 6; refine (hpr _ HVA.out _ HRA.out).mono ?_; clear hpr; rintro e w2 ⟨rfl, hk2⟩; have HK2 := Hid.mk' hk2; clear hk2; have HV2 := Hid.mk' (HVA.out.keep HK2.out); have HB2 := Hid.mk' (HK2.out.at HBA.out id); have HR2 := Hid.mk' (HRA.out.keep HK2.out); have S5 := Hid.mk' True.intro)
    | (clear S5; refine wpList_load_row rfl 24 (.tmp 5) rfl w1.heap.size (by rfl) 24 (scell ct (.slice p1 ct.l.length c1)) (0, 0) _ HB2.out Tryd.underlying24 rfl size24 ?_; have S6 := Hid.mk' True.intro)
    | (clear S6; go_at_call 8; refine (copyStep_any _ ct _ HR2.out (by have h : ct.l.length ≤ 500 := HS.out.l; omega)).mono ?_; rintro e w3 ⟨v3, rfl, h3⟩; obtain ⟨p3, c3, hv3, hc3, _⟩ := id (Row.of_own h3.out.1); subst hv3; have H3 := Hid.mk' h3.out; clear h3; have HB3 := Hid.mk' (H3.out.2.at HB2.out id); have S7 := Hid.mk' True.intro)
    | (clear S7; refine wpList_alloc_st rfl rfl ?_; have S8 := Hid.mk' True.intro)
    | (clear S8; refine wpList_store_st rfl _ _ rfl ct p3 ct.l.length c3 (by rfl) (by rfl) ?_; have S9 := Hid.mk' True.intro))
  have HSB : Hid (SB w2.heap.size (w3.alloc (.cells (scell ct (.slice p3 ct.l.length c3)) 24)) w3.heap.size ct (.slice p3 ct.l.length c3)) := ⟨heap_last _ _, own_grow H3.out.1 ((Keeps.refl _ _).alloc _), H3.out.2.size⟩
  go_cut [18] from 18 to 44 (fun _ wx => ∃ r c, Hid (SB w2.heap.size wx w3.heap.size (fU (n.tmod 6) ct) (.slice r (fU (n.tmod 6) ct).l.length c) ∧ Keeps (fun _ => False) w2 wx))
  case first =>
    unfold scell
    have HK3 := Hid.mk' (H3.out.2)
    have HO3 := Hid.mk' (H3.out.1)
    have za : ¬ 9223372036854775807 < ct.a.size + 1 := by have h : ct.a.size ≤ 2000 := HS.out.a; omega
    have zb : ¬ 9223372036854775807 < ct.b.size + 1 := by have h : ct.b.size ≤ 2000 := HS.out.b; omega
    by_cases r0 : n.tmod 6 = 0
    · have HF : Hid (fU (n.tmod 6) ct = { ct with a := ct.a ++ ⟨#[120]⟩ }) := by show _ = _; unfold fU; rw [if_pos r0]
      rw [r0] at HF
      rw [r0]
      go_wp2
      go_meet
      case rel => exact ⟨p3, c3, by rw [r0, HF.out]; exact ⟨⟨heap_last _ _, own_grow HO3.out ((Keeps.refl _ _).alloc _), HK3.out.size⟩, HK3.out.alloc _⟩⟩
    by_cases r1 : n.tmod 6 = 1
    · have HF : Hid (fU (n.tmod 6) ct = { ct with b := ct.b ++ ⟨#[120]⟩ }) := by show _ = _; unfold fU; rw [if_neg r0, if_pos r1]
      rw [r1] at HF
      rw [r1]
      go_wp2
      go_meet
      case rel => exact ⟨p3, c3, by rw [r1, HF.out]; exact ⟨⟨heap_last _ _, own_grow HO3.out ((Keeps.refl _ _).alloc _), HK3.out.size⟩, HK3.out.alloc _⟩⟩
    by_cases r2 : n.tmod 6 = 2
    · have HF : Hid (fU (n.tmod 6) ct = { ct with n := 7 }) := by show _ = _; unfold fU; rw [if_neg r0, if_neg r1, if_pos r2]
      rw [r2] at HF
      rw [r2]
      go_wp2
      go_meet
      case rel => exact ⟨p3, c3, by rw [r2, HF.out]; exact ⟨⟨heap_last _ _, own_grow HO3.out ((Keeps.refl _ _).alloc _), HK3.out.size⟩, HK3.out.alloc _⟩⟩
    by_cases r3 : n.tmod 6 = 3
    · have HF : Hid (fU (n.tmod 6) ct = { ct with m := 7 }) := by show _ = _; unfold fU; rw [if_neg r0, if_neg r1, if_neg r2, if_pos r3]
      rw [r3] at HF
      rw [r3]
      go_wp2
      go_meet
      case rel => exact ⟨p3, c3, by rw [r3, HF.out]; exact ⟨⟨heap_last _ _, own_grow HO3.out ((Keeps.refl _ _).alloc _), HK3.out.size⟩, HK3.out.alloc _⟩⟩
    by_cases r4 : n.tmod 6 = 4
    · have HF : Hid (fU (n.tmod 6) ct = { ct with k := 7 }) := by show _ = _; unfold fU; rw [if_neg r0, if_neg r1, if_neg r2, if_neg r3, if_pos r4]
      rw [r4] at HF
      rw [r4]
      go_wp2
      go_meet
      case rel => exact ⟨p3, c3, by rw [r4, HF.out]; exact ⟨⟨heap_last _ _, own_grow HO3.out ((Keeps.refl _ _).alloc _), HK3.out.size⟩, HK3.out.alloc _⟩⟩
    have HF : Hid (fU (n.tmod 6) ct = { ct with l := ct.l ++ [7] }) := by show _ = _; unfold fU; rw [if_neg r0, if_neg r1, if_neg r2, if_neg r3, if_neg r4]
    have q0 : (n.tmod 6 == 0) = false := beq_eq_false_iff_ne.2 r0
    have q1 : (n.tmod 6 == 1) = false := beq_eq_false_iff_ne.2 r1
    have q2 : (n.tmod 6 == 2) = false := beq_eq_false_iff_ne.2 r2
    have q3 : (n.tmod 6 == 3) = false := beq_eq_false_iff_ne.2 r3
    have q4 : (n.tmod 6 == 4) = false := beq_eq_false_iff_ne.2 r4
    obtain ⟨i0, hi0, hz0, hz1, hz2⟩ := info_parts info3
    have HL5 : Hid (ct.l.length ≤ 500) := HS.out.l
    have HON := Hid.mk' (cell_one_new (w3.alloc (.cells (scell ct (.slice p3 ct.l.length c3)) 24)) (.int .i64 7) 3)
    rw [World.size_alloc] at HON
    go_wp2_with (first
      | (at_builtin; go_must (refine wpList_append_own_at _ rfl _ _ 22 rfl w2.heap.size 3 i0 (.int .i64 0) 1 8 Tryd.underlying22 hi0 hz0 hz1 hz2 rfl (by decide) (.slice p3 ct.l.length c3) ct.l.length (ints ct.l) (by rfl) (HSB.out.row.alloc _) ⟨w3.heap.size + 1, 0, none⟩ 1 1 [.int .i64 7] (by rfl) rfl HON.out (by simp [Value.oneCell']) (by unfold maxLen; have h : ct.l.length ≤ 500 := HL5.out; omega) (by have h : ct.l.length ≤ 500 := HL5.out; omega) (by rw [World.size_alloc, World.size_alloc]; have := HK3.out.size; omega) ?_)
         intro v2 W2 hown hgr _ _
         have hA := HSB.out.after hown hgr
         obtain ⟨ra, rc, hr2, _⟩ := Row.of_own hown
         subst hr2
         have c2 := hA.2.1
         have f2 := hA.2.2.1
         have HA := Hid.mk' hA
         clear hown hgr hA))
    go_meet
    case rel =>
      have hs := HA.out.1
      have hk2 := HA.out.2.2.2
      have hb2 := setCell_block (a := ⟨w3.heap.size, 6, none⟩) (v := .slice ra (ct.l.length + 1) rc) hs.1 rfl
      have hk3 : Keeps (fun k => k = w3.heap.size) W2 (W2.setCell ⟨w3.heap.size, 6, none⟩ (.slice ra (ct.l.length + 1) rc)) := Keeps.of (grownBy_setCell _ _ _) (fun k hk => Or.inl (by cases hk; rfl))
      have hlen : (ct.l ++ [7]).length = ct.l.length + 1 := by simp
      refine ⟨ra, rc, ?_⟩
      rw [HF.out]
      show SB _ _ _ _ (.slice ra (ct.l ++ [7]).length rc) ∧ _
      rw [hlen]
      refine ⟨⟨hb2, ?_, hs.2.2⟩, ?_⟩
      · show World.ownsRow _ w2.heap.size 3 1 _ (ct.l ++ [7]).length (ints (ct.l ++ [7]))
        rw [hlen, show ints (ct.l ++ [7]) = ints ct.l ++ [.int .i64 7] by simp [ints]]
        exact own_keep hs.2.1 hk3 (row_ne hs.1 hs.2.1)
      · exact (HK3.out.alloc _).after (hk2.trans (hk3.mono (fun i _ hi => by rw [hi]; exact hs.2.2))) (fun _ h => h)
  case rest =>
    obtain ⟨r6, c6, HC⟩ := hcut
    have HKC := Hid.mk' (HC.out.2)
    have HSU := Hid.mk' HC.out.1
    have HRU := Hid.mk' (Row.of_own HC.out.1.row)
    have hsha := fun W (k : Keeps (fun _ => False) wc W) => shaped_any W (fU (n.tmod 6) ct) _ (HRU.out.keep k) (by rw [HKU.out]; omega) (by have h : (fU (n.tmod 6) ct).l.length ≤ 501 := HU.out.2.l; omega)
    have HUS : Hid ((fU (n.tmod 6) ct).l.length ≤ 501) := HU.out.2.l
    have hpU := fun W h v hr => print_any W h (fU (n.tmod 6) ct) v hr HU.out.1 (wrF_le HU.out.1)
    have HB5 := Hid.mk' (HKC.out.at HB2.out id)
    have HR5 := Hid.mk' (HR2.out.keep HKC.out)
    have HVC := Hid.mk' (HV2.out.keep HKC.out)
    have HKW2 := Hid.mk' ((HKW.out.trans HK2.out).trans HKC.out)
    generalize fU (n.tmod 6) ct = U at *
    have HSL : Hid ((shF U).l.length ≤ 4000000000000000000) := by
      show _ ≤ _
      have h := shF_len U
      have h2 : U.l.length ≤ 501 := HUS.out
      omega
    have HCELL : Hid (wc.rangeAt w3.heap.size 0 (scell U (.slice r6 U.l.length c6)).toList) := rangeAt_block HSU.out.box (scell U (.slice r6 U.l.length c6))
    clear HC HSB
    go_upto_region 17 with (fail)
    refine wp_region_held_drew (S := fun wx => wx.rangeAt w3.heap.size 0 (scell U (.slice r6 U.l.length c6)).toList) (by kernel_rfl) HCELL.out (fun hS => ?_)
    refine takeH 0 (some 45) (.agg (scell U (.slice r6 U.l.length c6))) rfl rfl (by kernel_rfl) (by kernel_rfl) (by kernel_rfl) (fun _ _ _ h => h) (yieldsIf_load_mid (by rfl) 24 (.tmp 6) rfl w3.heap.size 0 (by rfl) (scell U (.slice r6 U.l.length c6)).toList _ (fun _ h => h) Tryd.underlying24 rfl size24) hS ?_
    try simp only [Act.put, List.setIfInBounds_toArray, List.set_cons_zero, List.set_cons_succ]
    refine takeH 2 (some 47) (.agg (scell U (.slice r6 U.l.length c6))) rfl rfl (by kernel_rfl) (by kernel_rfl) (by kernel_rfl) (fun _ _ _ h => h) (yieldsIf_load_mid (by rfl) 24 (.tmp 6) rfl w3.heap.size 0 (by rfl) (scell U (.slice r6 U.l.length c6)).toList _ (fun _ h => h) Tryd.underlying24 rfl size24) hS ?_
    try simp only [Act.put, List.setIfInBounds_toArray, List.set_cons_zero, List.set_cons_succ]
    refine wpAnyH_ready (rs := [1]) (by kernel_rfl) (by simp) (AllReadyH.cons rfl (fun K hK => ?_) AllReadyH.nil)
    go_simp
    go_at_call 9
    refine (hsha _ (Keeps.drewN _ wc 1)).mono ?_
    clear hsha
    rintro e w4 ⟨v4, rfl, h4⟩
    obtain ⟨p4, c4, hv4, _, _⟩ := id (Row.of_own h4.out.1)
    subst hv4
    have H4 := Hid.mk' h4.out
    refine hK.out _ _ (fun j u hj => h4.out.2.cell (hS j u hj) id) (fun hS => ?_)
    clear hK h4
    try simp only [Act.put, List.setIfInBounds_toArray, List.set_cons_zero, List.set_cons_succ]
    refine wpAnyH_ready (rs := [3]) (by kernel_rfl) (by simp) (AllReadyH.cons rfl (fun K hK => ?_) AllReadyH.nil)
    go_simp
    go_at_call 7
    refine (lsame_any _ (shF U) U _ _ (Row.of_own H4.out.1) (HRU.out.keep ((Keeps.drewN _ wc 1).trans H4.out.2)) HSL.out).mono ?_
    rintro e w5 ⟨rfl, hk5⟩
    have HK5 := Hid.mk' hk5
    refine hK.out _ _ (fun j u hj => hk5.cell (hS j u hj) id) (fun hS => ?_)
    clear hK hk5
    try simp only [Act.put, List.setIfInBounds_toArray, List.set_cons_zero, List.set_cons_succ]
    refine takeH 4 (some 7) (.bool (smF (shF U) U)) rfl rfl (by kernel_rfl) (by kernel_rfl) (by kernel_rfl) (fun _ _ _ h => h) (Or.inl ⟨by rfl, fun wx _ => by go_simp⟩) hS ?_
    try simp only [Act.put, List.setIfInBounds_toArray, List.set_cons_zero, List.set_cons_succ]
    refine wpAnyH_done (by kernel_rfl) ?_ _
    clear hS
    have HKX := Hid.mk' (((Keeps.drewN (fun _ => False) wc 1).trans H4.out.2).trans HK5.out)
    have HB5x := Hid.mk' (HKX.out.at HB5.out id)
    have HR5x := Hid.mk' (HR5.out.keep HKX.out)
    have HBU := Hid.mk' (HKX.out.at HSU.out.box id)
    have hHL := HHL.out
    generalize mkB (prF U) = LU at *
    generalize smF (shF U) U = BB at *
    clear HHL HFU
    cases BB with
    | true =>
      simp only [Bool.not_true] at hHL
      have S0 := Hid.mk' True.intro
      go_wp2_with (first
        | (clear S0; refine wpList_load_row rfl 24 (.tmp 5) rfl w1.heap.size (by rfl) 24 (scell ct (.slice p1 ct.l.length c1)) (0, 0) _ HB5x.out Tryd.underlying24 rfl size24 ?_; have S1 := Hid.mk' True.intro)
        | (clear S1; go_at_call 8; refine (copyStep_any _ ct _ HR5x.out (by have h : ct.l.length ≤ 500 := HS.out.l; omega)).mono ?_; rintro e w6 ⟨v6, rfl, h6⟩; obtain ⟨p8, c8, hv6, _, _⟩ := id (Row.of_own h6.out.1); subst hv6; have H6 := Hid.mk' h6.out; clear h6; have HKV := Hid.mk' ((Keeps.refl (fun _ => False) w6).alloc (.cells #[.int .i64 (ct.kind + 21), .string ct.a, .string ct.b, .int .i64 ct.n, .int .i64 ct.m, .int .i64 ct.k, .slice p8 ct.l.length c8] 24)); have HB6 := Hid.mk' (HKV.out.at (H6.out.2.at HB5x.out id) id); have HR6 := Hid.mk' ((HR5x.out.keep H6.out.2).keep HKV.out); have S2 := Hid.mk' True.intro)
        | (clear S2; refine wpList_alloc_st rfl rfl ?_; have S3 := Hid.mk' True.intro)
        | (clear S3; refine wpList_store_st rfl _ _ rfl ct p8 ct.l.length c8 (by rfl) (by rfl) ?_; unfold scell; have S4 := Hid.mk' True.intro)
        | (clear S4; refine wpList_load_row rfl 24 (.tmp 5) rfl w1.heap.size (by rfl) 24 (scell ct (.slice p1 ct.l.length c1)) (0, 0) _ HB6.out Tryd.underlying24 rfl size24 ?_; have S5 := Hid.mk' True.intro)
        | (clear S5; go_at_call 8; refine (copyStep_any _ ct _ HR6.out (by have h : ct.l.length ≤ 500 := HS.out.l; omega)).mono ?_; rintro e w7 ⟨v7, rfl, h7⟩; obtain ⟨p9, c9, hv7, _, _⟩ := id (Row.of_own h7.out.1); subst hv7; have H7 := Hid.mk' h7.out; clear h7; have HKY := Hid.mk' ((Keeps.refl (fun _ => False) w7).alloc (.cells #[.int .i64 (-ct.kind), .string ct.a, .string ct.b, .int .i64 ct.n, .int .i64 ct.m, .int .i64 ct.k, .slice p9 ct.l.length c9] 24)); have HKZ := Hid.mk' (H7.out.2.trans HKY.out); have HKV7 := Hid.mk' ((H6.out.2.trans HKV.out).trans HKZ.out); have HBU7 := Hid.mk' (HKV7.out.at HBU.out id); have HV7 := Hid.mk' (HVC.out.keep (HKX.out.trans HKV7.out)); have S6 := Hid.mk' True.intro)
        | (clear S6; refine wpList_alloc_st rfl rfl ?_; have S7 := Hid.mk' True.intro)
        | (clear S7; refine wpList_store_st rfl _ _ rfl ct p9 ct.l.length c9 (by rfl) (by rfl) ?_; unfold scell; have S8 := Hid.mk' True.intro)
        | (clear S8; refine wpList_load_row rfl 24 (.tmp 6) rfl w3.heap.size (by rfl) 24 (scell U (.slice r6 U.l.length c6)) (0, 0) _ HBU7.out Tryd.underlying24 rfl size24 ?_; have S9 := Hid.mk' True.intro)
        | (clear S9; go_at_call 6; refine (hpU _ HV7.out _ (HRU.out.keep (HKX.out.trans HKV7.out))).mono ?_; clear hpU; rintro e w8 ⟨rfl, hk8⟩; have HK8 := Hid.mk' hk8; clear hk8; have a0 := (HKZ.out.trans HK8.out).cell (new_cell w6 #[.int .i64 (ct.kind + 21), .string ct.a, .string ct.b, .int .i64 ct.n, .int .i64 ct.m, .int .i64 ct.k, .slice p8 ct.l.length c8] 24 0 (.int .i64 (ct.kind + 21)) rfl) id; have a1 := (HKZ.out.trans HK8.out).cell (new_cell w6 #[.int .i64 (ct.kind + 21), .string ct.a, .string ct.b, .int .i64 ct.n, .int .i64 ct.m, .int .i64 ct.k, .slice p8 ct.l.length c8] 24 1 (.string ct.a) rfl) id; have a2 := (HKZ.out.trans HK8.out).cell (new_cell w6 #[.int .i64 (ct.kind + 21), .string ct.a, .string ct.b, .int .i64 ct.n, .int .i64 ct.m, .int .i64 ct.k, .slice p8 ct.l.length c8] 24 2 (.string ct.b) rfl) id; have a3 := (HKZ.out.trans HK8.out).cell (new_cell w6 #[.int .i64 (ct.kind + 21), .string ct.a, .string ct.b, .int .i64 ct.n, .int .i64 ct.m, .int .i64 ct.k, .slice p8 ct.l.length c8] 24 3 (.int .i64 ct.n) rfl) id; have a4 := (HKZ.out.trans HK8.out).cell (new_cell w6 #[.int .i64 (ct.kind + 21), .string ct.a, .string ct.b, .int .i64 ct.n, .int .i64 ct.m, .int .i64 ct.k, .slice p8 ct.l.length c8] 24 4 (.int .i64 ct.m) rfl) id; have a5 := (HKZ.out.trans HK8.out).cell (new_cell w6 #[.int .i64 (ct.kind + 21), .string ct.a, .string ct.b, .int .i64 ct.n, .int .i64 ct.m, .int .i64 ct.k, .slice p8 ct.l.length c8] 24 5 (.int .i64 ct.k) rfl) id; have a6 := (HKZ.out.trans HK8.out).cell (new_cell w6 #[.int .i64 (ct.kind + 21), .string ct.a, .string ct.b, .int .i64 ct.n, .int .i64 ct.m, .int .i64 ct.k, .slice p8 ct.l.length c8] 24 6 (.slice p8 ct.l.length c8) rfl) id; have T0 := Hid.mk' True.intro)
        | (clear T0; go_at_call 6; refine (HPV.out _ (HV7.out.keep HK8.out) _ ((Row.of_own H6.out.1).keep (HKV.out.trans (HKZ.out.trans HK8.out)))).mono ?_; clear HPV; rintro e w9 ⟨rfl, hk9⟩; have HK9 := Hid.mk' hk9; clear hk9; have b0 := (HK8.out.trans HK9.out).cell (new_cell w7 #[.int .i64 (-ct.kind), .string ct.a, .string ct.b, .int .i64 ct.n, .int .i64 ct.m, .int .i64 ct.k, .slice p9 ct.l.length c9] 24 0 (.int .i64 (-ct.kind)) rfl) id; have b1 := (HK8.out.trans HK9.out).cell (new_cell w7 #[.int .i64 (-ct.kind), .string ct.a, .string ct.b, .int .i64 ct.n, .int .i64 ct.m, .int .i64 ct.k, .slice p9 ct.l.length c9] 24 1 (.string ct.a) rfl) id; have b2 := (HK8.out.trans HK9.out).cell (new_cell w7 #[.int .i64 (-ct.kind), .string ct.a, .string ct.b, .int .i64 ct.n, .int .i64 ct.m, .int .i64 ct.k, .slice p9 ct.l.length c9] 24 2 (.string ct.b) rfl) id; have b3 := (HK8.out.trans HK9.out).cell (new_cell w7 #[.int .i64 (-ct.kind), .string ct.a, .string ct.b, .int .i64 ct.n, .int .i64 ct.m, .int .i64 ct.k, .slice p9 ct.l.length c9] 24 3 (.int .i64 ct.n) rfl) id; have b4 := (HK8.out.trans HK9.out).cell (new_cell w7 #[.int .i64 (-ct.kind), .string ct.a, .string ct.b, .int .i64 ct.n, .int .i64 ct.m, .int .i64 ct.k, .slice p9 ct.l.length c9] 24 4 (.int .i64 ct.m) rfl) id; have b5 := (HK8.out.trans HK9.out).cell (new_cell w7 #[.int .i64 (-ct.kind), .string ct.a, .string ct.b, .int .i64 ct.n, .int .i64 ct.m, .int .i64 ct.k, .slice p9 ct.l.length c9] 24 5 (.int .i64 ct.k) rfl) id; have b6 := (HK8.out.trans HK9.out).cell (new_cell w7 #[.int .i64 (-ct.kind), .string ct.a, .string ct.b, .int .i64 ct.n, .int .i64 ct.m, .int .i64 ct.k, .slice p9 ct.l.length c9] 24 6 (.slice p9 ct.l.length c9) rfl) id; have T1 := Hid.mk' True.intro)
        | (clear T1; go_at_call 6; refine (HPW.out _ (HV7.out.keep (HK8.out.trans HK9.out)) _ ((Row.of_own H7.out.1).keep (HKY.out.trans (HK8.out.trans HK9.out)))).mono ?_; clear HPW; rintro e w10 ⟨rfl, hk10⟩; have HK10 := Hid.mk' hk10; clear hk10; have T2 := Hid.mk' True.intro)
        | (clear T2; go_at_call 6; refine (HPZ.out _ (HV7.out.keep ((HK8.out.trans HK9.out).trans HK10.out)) (.slice none 0 0) ⟨none, 0, rfl, Nat.le_refl _, fun h => absurd h (by decide)⟩).mono ?_; clear HPZ; rintro e w11 ⟨rfl, hk11⟩; have HK11 := Hid.mk' hk11; clear hk11; have T3 := Hid.mk' True.intro))
      go_ret
      exact ⟨rfl, (((((HKW2.out.trans HKX.out).trans HKV7.out).trans HK8.out).trans HK9.out).trans HK10.out).trans HK11.out⟩
    | false =>
      simp only [Bool.not_false] at hHL
      have S0 := Hid.mk' True.intro
      go_wp2_with (first
        | (clear S0; refine wpList_load_row rfl 24 (.tmp 5) rfl w1.heap.size (by rfl) 24 (scell ct (.slice p1 ct.l.length c1)) (0, 0) _ HB5x.out Tryd.underlying24 rfl size24 ?_; have S1 := Hid.mk' True.intro)
        | (clear S1; go_at_call 8; refine (copyStep_any _ ct _ HR5x.out (by have h : ct.l.length ≤ 500 := HS.out.l; omega)).mono ?_; rintro e w6 ⟨v6, rfl, h6⟩; obtain ⟨p8, c8, hv6, _, _⟩ := id (Row.of_own h6.out.1); subst hv6; have H6 := Hid.mk' h6.out; clear h6; have HKV := Hid.mk' ((Keeps.refl (fun _ => False) w6).alloc (.cells #[.int .i64 (ct.kind + 21), .string ct.a, .string ct.b, .int .i64 ct.n, .int .i64 ct.m, .int .i64 ct.k, .slice p8 ct.l.length c8] 24)); have HB6 := Hid.mk' (HKV.out.at (H6.out.2.at HB5x.out id) id); have HR6 := Hid.mk' ((HR5x.out.keep H6.out.2).keep HKV.out); have S2 := Hid.mk' True.intro)
        | (clear S2; refine wpList_alloc_st rfl rfl ?_; have S3 := Hid.mk' True.intro)
        | (clear S3; refine wpList_store_st rfl _ _ rfl ct p8 ct.l.length c8 (by rfl) (by rfl) ?_; unfold scell; have S4 := Hid.mk' True.intro)
        | (clear S4; refine wpList_load_row rfl 24 (.tmp 5) rfl w1.heap.size (by rfl) 24 (scell ct (.slice p1 ct.l.length c1)) (0, 0) _ HB6.out Tryd.underlying24 rfl size24 ?_; have S5 := Hid.mk' True.intro)
        | (clear S5; go_at_call 8; refine (copyStep_any _ ct _ HR6.out (by have h : ct.l.length ≤ 500 := HS.out.l; omega)).mono ?_; rintro e w7 ⟨v7, rfl, h7⟩; obtain ⟨p9, c9, hv7, _, _⟩ := id (Row.of_own h7.out.1); subst hv7; have H7 := Hid.mk' h7.out; clear h7; have HKY := Hid.mk' ((Keeps.refl (fun _ => False) w7).alloc (.cells #[.int .i64 (-ct.kind), .string ct.a, .string ct.b, .int .i64 ct.n, .int .i64 ct.m, .int .i64 ct.k, .slice p9 ct.l.length c9] 24)); have HKZ := Hid.mk' (H7.out.2.trans HKY.out); have HKV7 := Hid.mk' ((H6.out.2.trans HKV.out).trans HKZ.out); have HBU7 := Hid.mk' (HKV7.out.at HBU.out id); have HV7 := Hid.mk' (HVC.out.keep (HKX.out.trans HKV7.out)); have S6 := Hid.mk' True.intro)
        | (clear S6; refine wpList_alloc_st rfl rfl ?_; have S7 := Hid.mk' True.intro)
        | (clear S7; refine wpList_store_st rfl _ _ rfl ct p9 ct.l.length c9 (by rfl) (by rfl) ?_; unfold scell; have S8 := Hid.mk' True.intro)
        | (clear S8; refine wpList_load_row rfl 24 (.tmp 6) rfl w3.heap.size (by rfl) 24 (scell U (.slice r6 U.l.length c6)) (0, 0) _ HBU7.out Tryd.underlying24 rfl size24 ?_; have S9 := Hid.mk' True.intro)
        | (clear S9; go_at_call 6; refine (hpU _ HV7.out _ (HRU.out.keep (HKX.out.trans HKV7.out))).mono ?_; clear hpU; rintro e w8 ⟨rfl, hk8⟩; have HK8 := Hid.mk' hk8; clear hk8; have a0 := (HKZ.out.trans HK8.out).cell (new_cell w6 #[.int .i64 (ct.kind + 21), .string ct.a, .string ct.b, .int .i64 ct.n, .int .i64 ct.m, .int .i64 ct.k, .slice p8 ct.l.length c8] 24 0 (.int .i64 (ct.kind + 21)) rfl) id; have a1 := (HKZ.out.trans HK8.out).cell (new_cell w6 #[.int .i64 (ct.kind + 21), .string ct.a, .string ct.b, .int .i64 ct.n, .int .i64 ct.m, .int .i64 ct.k, .slice p8 ct.l.length c8] 24 1 (.string ct.a) rfl) id; have a2 := (HKZ.out.trans HK8.out).cell (new_cell w6 #[.int .i64 (ct.kind + 21), .string ct.a, .string ct.b, .int .i64 ct.n, .int .i64 ct.m, .int .i64 ct.k, .slice p8 ct.l.length c8] 24 2 (.string ct.b) rfl) id; have a3 := (HKZ.out.trans HK8.out).cell (new_cell w6 #[.int .i64 (ct.kind + 21), .string ct.a, .string ct.b, .int .i64 ct.n, .int .i64 ct.m, .int .i64 ct.k, .slice p8 ct.l.length c8] 24 3 (.int .i64 ct.n) rfl) id; have a4 := (HKZ.out.trans HK8.out).cell (new_cell w6 #[.int .i64 (ct.kind + 21), .string ct.a, .string ct.b, .int .i64 ct.n, .int .i64 ct.m, .int .i64 ct.k, .slice p8 ct.l.length c8] 24 4 (.int .i64 ct.m) rfl) id; have a5 := (HKZ.out.trans HK8.out).cell (new_cell w6 #[.int .i64 (ct.kind + 21), .string ct.a, .string ct.b, .int .i64 ct.n, .int .i64 ct.m, .int .i64 ct.k, .slice p8 ct.l.length c8] 24 5 (.int .i64 ct.k) rfl) id; have a6 := (HKZ.out.trans HK8.out).cell (new_cell w6 #[.int .i64 (ct.kind + 21), .string ct.a, .string ct.b, .int .i64 ct.n, .int .i64 ct.m, .int .i64 ct.k, .slice p8 ct.l.length c8] 24 6 (.slice p8 ct.l.length c8) rfl) id; have T0 := Hid.mk' True.intro)
        | (clear T0; go_at_call 6; refine (HPV.out _ (HV7.out.keep HK8.out) _ ((Row.of_own H6.out.1).keep (HKV.out.trans (HKZ.out.trans HK8.out)))).mono ?_; clear HPV; rintro e w9 ⟨rfl, hk9⟩; have HK9 := Hid.mk' hk9; clear hk9; have b0 := (HK8.out.trans HK9.out).cell (new_cell w7 #[.int .i64 (-ct.kind), .string ct.a, .string ct.b, .int .i64 ct.n, .int .i64 ct.m, .int .i64 ct.k, .slice p9 ct.l.length c9] 24 0 (.int .i64 (-ct.kind)) rfl) id; have b1 := (HK8.out.trans HK9.out).cell (new_cell w7 #[.int .i64 (-ct.kind), .string ct.a, .string ct.b, .int .i64 ct.n, .int .i64 ct.m, .int .i64 ct.k, .slice p9 ct.l.length c9] 24 1 (.string ct.a) rfl) id; have b2 := (HK8.out.trans HK9.out).cell (new_cell w7 #[.int .i64 (-ct.kind), .string ct.a, .string ct.b, .int .i64 ct.n, .int .i64 ct.m, .int .i64 ct.k, .slice p9 ct.l.length c9] 24 2 (.string ct.b) rfl) id; have b3 := (HK8.out.trans HK9.out).cell (new_cell w7 #[.int .i64 (-ct.kind), .string ct.a, .string ct.b, .int .i64 ct.n, .int .i64 ct.m, .int .i64 ct.k, .slice p9 ct.l.length c9] 24 3 (.int .i64 ct.n) rfl) id; have b4 := (HK8.out.trans HK9.out).cell (new_cell w7 #[.int .i64 (-ct.kind), .string ct.a, .string ct.b, .int .i64 ct.n, .int .i64 ct.m, .int .i64 ct.k, .slice p9 ct.l.length c9] 24 4 (.int .i64 ct.m) rfl) id; have b5 := (HK8.out.trans HK9.out).cell (new_cell w7 #[.int .i64 (-ct.kind), .string ct.a, .string ct.b, .int .i64 ct.n, .int .i64 ct.m, .int .i64 ct.k, .slice p9 ct.l.length c9] 24 5 (.int .i64 ct.k) rfl) id; have b6 := (HK8.out.trans HK9.out).cell (new_cell w7 #[.int .i64 (-ct.kind), .string ct.a, .string ct.b, .int .i64 ct.n, .int .i64 ct.m, .int .i64 ct.k, .slice p9 ct.l.length c9] 24 6 (.slice p9 ct.l.length c9) rfl) id; have T1 := Hid.mk' True.intro)
        | (clear T1; go_at_call 6; refine (HPW.out _ (HV7.out.keep (HK8.out.trans HK9.out)) _ ((Row.of_own H7.out.1).keep (HKY.out.trans (HK8.out.trans HK9.out)))).mono ?_; clear HPW; rintro e w10 ⟨rfl, hk10⟩; have HK10 := Hid.mk' hk10; clear hk10; have T2 := Hid.mk' True.intro)
        | (clear T2; go_at_call 6; refine (HPZ.out _ (HV7.out.keep ((HK8.out.trans HK9.out).trans HK10.out)) (.slice none 0 0) ⟨none, 0, rfl, Nat.le_refl _, fun h => absurd h (by decide)⟩).mono ?_; clear HPZ; rintro e w11 ⟨rfl, hk11⟩; have HK11 := Hid.mk' hk11; clear hk11; have T3 := Hid.mk' True.intro))
      go_ret
      exact ⟨rfl, (((((HKW2.out.trans HKX.out).trans HKV7.out).trans HK8.out).trans HK9.out).trans HK10.out).trans HK11.out⟩
end Go.Proofs.YtngoifbflpeapaaDoor

