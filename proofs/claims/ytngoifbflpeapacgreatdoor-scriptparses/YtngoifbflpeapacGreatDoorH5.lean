import Derived.Test.YtngoifbflpeapacGreatDoorH4
import Derived.Test.YtngoifbflpeapacGreatDoorG1
namespace Go.Proofs.YtngoifbflpeapacGreatDoor
open Go.RowKit Go.Maps
set_option maxRecDepth 100000

theorem kd_args3 : ∀ k ∈ kds, k.args.length ≤ 3 := by decide
theorem join_any (w : World) (v : Value) (l : List ByteArray) (sep : ByteArray) (h : Row w v l.length (strs l)) (h0 : 0 < l.length) (hl : l.length ≤ 100000000) (hj : (Lib.join (l.map (·.data.toList)) sep.data.toList).length ≤ 140737488355328) :
    Calls Tryz.prog 32 #[v, .string sep] w fun e w' => e = .returned (.string (mkB (Lib.join (l.map (·.data.toList)) sep.data.toList))) ∧ Keeps (fun _ => False) w w' := by
  obtain ⟨p, c, rfl, hc, hcell⟩ := h
  obtain ⟨b, o, rfl, hb, hr⟩ := hcell h0
  refine (Tryz.strings_Join b o c l sep w (fun j x hx => hr j _ (by simp [strs, hx])) hb (by omega) hc hj).mono ?_
  rintro e w' ⟨rfl, hb2⟩
  exact ⟨rfl, Keeps.ofBelow hb2⟩

set_option maxHeartbeats 4000000 in
theorem written_any (w : World) (hv : Vars w) (t : St) (v : Value) (hr : Row w v t.l.length (ints t.l)) (ho : OkS t) (hln : (wrF t).length ≤ 140737488355328) :
    Calls Tryz.prog 20 #[.agg (scell t v)] w fun e w' => e = .returned (.string (mkB (wrF t))) ∧ Keeps (fun _ => False) w w' := by
  obtain ⟨p, c, rfl, _, _⟩ := id hr
  have HRow := Hid.mk' hr
  have HV := Hid.mk' hv
  have HO := Hid.mk' ho
  have HLN := Hid.mk' hln
  have h32 := kinds_any
  have HK0 := Hid.mk' ((Keeps.refl (fun _ => False) w).alloc (.cells (scell t (.slice p t.l.length c)) 25))
  have HB0 := Hid.mk' (heap_last w (.cells (scell t (.slice p t.l.length c)) 25))
  have d0 := new_cell w (scell t (.slice p t.l.length c)) 25 0 (.int .i64 t.kind) rfl
  clear hr hv ho hln
  unfold scell at HK0 HB0 d0
  unfold scell
  go_enter Tryz.func20, Tryz.ntmps20
  have S0 := Hid.mk' True.intro
  go_wp2_with (first | (clear S0; go_at_call 31; refine (h32 _).mono ?_; clear h32; rintro e w1 ⟨g, rfl, h1⟩; have H1 := Hid.mk' h1; clear h1; have S1 := Hid.mk' True.intro))
  go_loopw [10] (fun i wr => ∃ k : Nat, k ≤ 21 ∧ i = .int .i64 k ∧ Hid ((kds.take k).find? (fun d => d.num == t.kind) = none ∧ Keeps (fun _ => False) w1 wr)) (fun i _ => 21 - (intOf i).toNat)
  case atStart => exact ⟨0, by omega, rfl, rfl, Keeps.refl _ _⟩
  case round =>
    rename World => wo
    obtain ⟨k, hk, rfl, HI⟩ := hrel
    clear S1
    have HK2 := Hid.mk' (H1.out.2.trans HI.out.2)
    by_cases h1 : k < 21
    · have h1' : (k : Int) < 21 := by omega
      obtain ⟨d, v, hd, hr2, hav⟩ := kd_rows wo g (H1.out.1.keep HI.out.2) k h1
      obtain ⟨p1, c1, rfl, _⟩ := hav.shape
      have HD := Hid.mk' hd
      have HR := Hid.mk' hr2
      have HAV := Hid.mk' hav
      have HX := Hid.mk' ((Keeps.refl (fun _ => False) wo).alloc (.cells (kcell d.num d.word (.slice p1 d.args.length c1)) 55))
      have n0 := new_cell wo (kcell d.num d.word (.slice p1 d.args.length c1)) 55 0 (.int .i64 d.num) rfl
      have n1 := new_cell wo (kcell d.num d.word (.slice p1 d.args.length c1)) 55 1 (.string d.word) rfl
      have n2 := new_cell wo (kcell d.num d.word (.slice p1 d.args.length c1)) 55 2 (.slice p1 d.args.length c1) rfl
      have n3 := ((Keeps.refl (fun _ => False) (wo.alloc (.cells (kcell d.num d.word (.slice p1 d.args.length c1)) 55))).alloc (.cells #[.string d.word] 9)).cell n2 id
      have HLA := Hid.mk' (kd_args3 d (List.mem_of_getElem? hd))
      have e0 := HX.out.cell (HK2.out.cell d0 id) id
      clear hd hr2 hav
      rcases Bool.eq_false_or_eq_true (d.num == t.kind) with hw2 | hw2
      · have HE := Hid.mk' (find_hit HD.out HI.out.1 hw2)
        have S0 := Hid.mk' True.intro
        go_wp2_with (first
          | (clear S0; refine wpList_load_kd rfl _ rfl g (k * 3) _ _ _ (by rfl) HR.out ?_; have S1 := Hid.mk' True.intro)
          | (clear S1; refine wpList_alloc_kd rfl rfl ?_; have S2 := Hid.mk' True.intro)
          | (clear S2; refine wpList_store_kd rfl _ _ rfl d.num d.word p1 d.args.length c1 (by rfl) (by rfl) ?_; have S3 := Hid.mk' True.intro))
        have HS0 := Hid.mk' (SR.one (Keeps.refl (fun _ => False) (wo.alloc (.cells (kcell d.num d.word (.slice p1 d.args.length c1)) 55))) d.word)
        rw [World.size_alloc] at HS0
        clear n0 n1 n2 n3 e0
        go_loopw [5, 25] (fun v i wq => ∃ j : Nat, j ≤ d.args.length ∧ i = .int .i64 j ∧ Hid (SR (wo.alloc (.cells (kcell d.num d.word (.slice p1 d.args.length c1)) 55)) wq v (d.word :: tells (d.args.take j) t))) (fun _ i _ => d.args.length - (intOf i).toNat)
        case atStart => exact ⟨0, Nat.zero_le _, rfl, HS0.out⟩
        case round =>
          obtain ⟨j, hj, rfl, HS⟩ := hrel
          clear HS0
          by_cases h2 : j < d.args.length
          · have h2' : (j : Int) < (d.args.length : Int) := by omega
            obtain ⟨a, ha⟩ : ∃ a, d.args[j]? = some a := ⟨d.args[j], by simp [h2]⟩
            obtain ⟨b, o, hp1, hb, hr⟩ := ((HAV.out.keep HX.out).keep HS.out.2).range ha
            subst hp1
            have HR2 := Hid.mk' hr
            have HT : Hid (d.word :: tells (d.args.take (j + 1)) t = (d.word :: tells (d.args.take j) t) ++ tlF a t) := by show _ = _; rw [tells_take t ha]; rfl
            have HXq := Hid.mk' ((Keeps.refl (fun _ => False) wr).alloc (.cells (acell a) 69))
            have HKq := Hid.mk' (((HK2.out.trans HX.out).trans HS.out.2).trans HXq.out)
            have HBq := Hid.mk' (HKq.out.at HB0.out id)
            have htl := tell_any a _ (HV.out.keep (HK0.out.trans HKq.out)) t _ (HRow.out.keep (HK0.out.trans HKq.out)) HO.out
            have HLEN : Hid ((d.word :: tells (d.args.take j) t).length + (tlF a t).length ≤ 1000000000) := by
              show _ ≤ _
              have h1 := tells_len t (d.args.take j)
              have h3 := tlF_len a t
              have h4 := HO.out.l
              have h5 : (d.args.take j).length ≤ 3 := by rw [List.length_take]; have := HLA.out; have h6 : d.args.length ≤ 3 := HLA.out; omega
              have h6 : (d.args.take j).length * (1 + t.l.length) ≤ 3 * (1 + t.l.length) := Nat.mul_le_mul_right _ h5
              simp only [List.length_cons]
              omega
            clear hr hb ha
            cases a with
            | A =>
              have q3 := new_cell wr (acell .A) 69 3 (.func (.func 69) #[] #[]) rfl
              have h3l : d.args.length ≤ 3 := HLA.out
              have S0 := Hid.mk' True.intro
              go_wp2_with (first
                | (clear S0; refine wpList_load_arg rfl _ rfl b (o + j * 4) .A (by rfl) HR2.out ?_; have S1 := Hid.mk' True.intro)
                | (clear S1; refine wpList_alloc_a rfl rfl ?_; have S2 := Hid.mk' True.intro)
                | (clear S2; refine wpList_store_new rfl _ _ rfl .A (by rfl) (by rfl) ?_; have S3 := Hid.mk' True.intro)
                | (clear S3; refine wpList_load_row rfl 25 (.tmp 1) rfl w.heap.size (by rfl) 25 (scell t (.slice p t.l.length c)) (0, 0) _ HBq.out Tryz.underlying25 rfl size25 ?_; have S4 := Hid.mk' True.intro)
                | (clear S4; go_at_call 69; refine htl.mono ?_; clear htl; rintro e w5 ⟨v5, rfl, h5⟩; have H5 := Hid.mk' h5; clear h5; have S5 := Hid.mk' True.intro)
                | (clear S5; at_builtin; go_must (refine wpList_appl rfl _ _ rfl (wo.alloc (.cells (kcell d.num d.word (.slice (some ⟨b, o, none⟩) d.args.length c1)) 55)) w5 u5 _ (by rfl) (HS.out.keep (HXq.out.trans H5.out.out.2)) v5 _ (by rfl) (Row.of_own H5.out.out.1) (HLEN.out) ?_); intro v6 W6 hO6; have H6 := Hid.mk' hO6; clear hO6; have S6 := Hid.mk' True.intro))
              go_roundw
              case rel => exact ⟨j + 1, by omega, by go_num, by rw [HT.out]; exact H6.out⟩
              case measure => simp [intOf]; omega
            | B =>
              have q3 := new_cell wr (acell .B) 69 3 (.func (.func 72) #[] #[]) rfl
              have h3l : d.args.length ≤ 3 := HLA.out
              have S0 := Hid.mk' True.intro
              go_wp2_with (first
                | (clear S0; refine wpList_load_arg rfl _ rfl b (o + j * 4) .B (by rfl) HR2.out ?_; have S1 := Hid.mk' True.intro)
                | (clear S1; refine wpList_alloc_a rfl rfl ?_; have S2 := Hid.mk' True.intro)
                | (clear S2; refine wpList_store_new rfl _ _ rfl .B (by rfl) (by rfl) ?_; have S3 := Hid.mk' True.intro)
                | (clear S3; refine wpList_load_row rfl 25 (.tmp 1) rfl w.heap.size (by rfl) 25 (scell t (.slice p t.l.length c)) (0, 0) _ HBq.out Tryz.underlying25 rfl size25 ?_; have S4 := Hid.mk' True.intro)
                | (clear S4; go_at_call 72; refine htl.mono ?_; clear htl; rintro e w5 ⟨v5, rfl, h5⟩; have H5 := Hid.mk' h5; clear h5; have S5 := Hid.mk' True.intro)
                | (clear S5; at_builtin; go_must (refine wpList_appl rfl _ _ rfl (wo.alloc (.cells (kcell d.num d.word (.slice (some ⟨b, o, none⟩) d.args.length c1)) 55)) w5 u5 _ (by rfl) (HS.out.keep (HXq.out.trans H5.out.out.2)) v5 _ (by rfl) (Row.of_own H5.out.out.1) (HLEN.out) ?_); intro v6 W6 hO6; have H6 := Hid.mk' hO6; clear hO6; have S6 := Hid.mk' True.intro))
              go_roundw
              case rel => exact ⟨j + 1, by omega, by go_num, by rw [HT.out]; exact H6.out⟩
              case measure => simp [intOf]; omega
            | N =>
              have q3 := new_cell wr (acell .N) 69 3 (.func (.func 75) #[] #[]) rfl
              have h3l : d.args.length ≤ 3 := HLA.out
              have S0 := Hid.mk' True.intro
              go_wp2_with (first
                | (clear S0; refine wpList_load_arg rfl _ rfl b (o + j * 4) .N (by rfl) HR2.out ?_; have S1 := Hid.mk' True.intro)
                | (clear S1; refine wpList_alloc_a rfl rfl ?_; have S2 := Hid.mk' True.intro)
                | (clear S2; refine wpList_store_new rfl _ _ rfl .N (by rfl) (by rfl) ?_; have S3 := Hid.mk' True.intro)
                | (clear S3; refine wpList_load_row rfl 25 (.tmp 1) rfl w.heap.size (by rfl) 25 (scell t (.slice p t.l.length c)) (0, 0) _ HBq.out Tryz.underlying25 rfl size25 ?_; have S4 := Hid.mk' True.intro)
                | (clear S4; go_at_call 75; refine htl.mono ?_; clear htl; rintro e w5 ⟨v5, rfl, h5⟩; have H5 := Hid.mk' h5; clear h5; have S5 := Hid.mk' True.intro)
                | (clear S5; at_builtin; go_must (refine wpList_appl rfl _ _ rfl (wo.alloc (.cells (kcell d.num d.word (.slice (some ⟨b, o, none⟩) d.args.length c1)) 55)) w5 u5 _ (by rfl) (HS.out.keep (HXq.out.trans H5.out.out.2)) v5 _ (by rfl) (Row.of_own H5.out.out.1) (HLEN.out) ?_); intro v6 W6 hO6; have H6 := Hid.mk' hO6; clear hO6; have S6 := Hid.mk' True.intro))
              go_roundw
              case rel => exact ⟨j + 1, by omega, by go_num, by rw [HT.out]; exact H6.out⟩
              case measure => simp [intOf]; omega
            | M =>
              have q3 := new_cell wr (acell .M) 69 3 (.func (.func 78) #[] #[]) rfl
              have h3l : d.args.length ≤ 3 := HLA.out
              have S0 := Hid.mk' True.intro
              go_wp2_with (first
                | (clear S0; refine wpList_load_arg rfl _ rfl b (o + j * 4) .M (by rfl) HR2.out ?_; have S1 := Hid.mk' True.intro)
                | (clear S1; refine wpList_alloc_a rfl rfl ?_; have S2 := Hid.mk' True.intro)
                | (clear S2; refine wpList_store_new rfl _ _ rfl .M (by rfl) (by rfl) ?_; have S3 := Hid.mk' True.intro)
                | (clear S3; refine wpList_load_row rfl 25 (.tmp 1) rfl w.heap.size (by rfl) 25 (scell t (.slice p t.l.length c)) (0, 0) _ HBq.out Tryz.underlying25 rfl size25 ?_; have S4 := Hid.mk' True.intro)
                | (clear S4; go_at_call 78; refine htl.mono ?_; clear htl; rintro e w5 ⟨v5, rfl, h5⟩; have H5 := Hid.mk' h5; clear h5; have S5 := Hid.mk' True.intro)
                | (clear S5; at_builtin; go_must (refine wpList_appl rfl _ _ rfl (wo.alloc (.cells (kcell d.num d.word (.slice (some ⟨b, o, none⟩) d.args.length c1)) 55)) w5 u5 _ (by rfl) (HS.out.keep (HXq.out.trans H5.out.out.2)) v5 _ (by rfl) (Row.of_own H5.out.out.1) (HLEN.out) ?_); intro v6 W6 hO6; have H6 := Hid.mk' hO6; clear hO6; have S6 := Hid.mk' True.intro))
              go_roundw
              case rel => exact ⟨j + 1, by omega, by go_num, by rw [HT.out]; exact H6.out⟩
              case measure => simp [intOf]; omega
            | K =>
              have q3 := new_cell wr (acell .K) 69 3 (.func (.func 80) #[] #[]) rfl
              have h3l : d.args.length ≤ 3 := HLA.out
              have S0 := Hid.mk' True.intro
              go_wp2_with (first
                | (clear S0; refine wpList_load_arg rfl _ rfl b (o + j * 4) .K (by rfl) HR2.out ?_; have S1 := Hid.mk' True.intro)
                | (clear S1; refine wpList_alloc_a rfl rfl ?_; have S2 := Hid.mk' True.intro)
                | (clear S2; refine wpList_store_new rfl _ _ rfl .K (by rfl) (by rfl) ?_; have S3 := Hid.mk' True.intro)
                | (clear S3; refine wpList_load_row rfl 25 (.tmp 1) rfl w.heap.size (by rfl) 25 (scell t (.slice p t.l.length c)) (0, 0) _ HBq.out Tryz.underlying25 rfl size25 ?_; have S4 := Hid.mk' True.intro)
                | (clear S4; go_at_call 80; refine htl.mono ?_; clear htl; rintro e w5 ⟨v5, rfl, h5⟩; have H5 := Hid.mk' h5; clear h5; have S5 := Hid.mk' True.intro)
                | (clear S5; at_builtin; go_must (refine wpList_appl rfl _ _ rfl (wo.alloc (.cells (kcell d.num d.word (.slice (some ⟨b, o, none⟩) d.args.length c1)) 55)) w5 u5 _ (by rfl) (HS.out.keep (HXq.out.trans H5.out.out.2)) v5 _ (by rfl) (Row.of_own H5.out.out.1) (HLEN.out) ?_); intro v6 W6 hO6; have H6 := Hid.mk' hO6; clear hO6; have S6 := Hid.mk' True.intro))
              go_roundw
              case rel => exact ⟨j + 1, by omega, by go_num, by rw [HT.out]; exact H6.out⟩
              case measure => simp [intOf]; omega
            | L =>
              have q3 := new_cell wr (acell .L) 69 3 (.func (.func 82) #[] #[]) rfl
              have h3l : d.args.length ≤ 3 := HLA.out
              have S0 := Hid.mk' True.intro
              go_wp2_with (first
                | (clear S0; refine wpList_load_arg rfl _ rfl b (o + j * 4) .L (by rfl) HR2.out ?_; have S1 := Hid.mk' True.intro)
                | (clear S1; refine wpList_alloc_a rfl rfl ?_; have S2 := Hid.mk' True.intro)
                | (clear S2; refine wpList_store_new rfl _ _ rfl .L (by rfl) (by rfl) ?_; have S3 := Hid.mk' True.intro)
                | (clear S3; refine wpList_load_row rfl 25 (.tmp 1) rfl w.heap.size (by rfl) 25 (scell t (.slice p t.l.length c)) (0, 0) _ HBq.out Tryz.underlying25 rfl size25 ?_; have S4 := Hid.mk' True.intro)
                | (clear S4; go_at_call 82; refine htl.mono ?_; clear htl; rintro e w5 ⟨v5, rfl, h5⟩; have H5 := Hid.mk' h5; clear h5; have S5 := Hid.mk' True.intro)
                | (clear S5; at_builtin; go_must (refine wpList_appl rfl _ _ rfl (wo.alloc (.cells (kcell d.num d.word (.slice (some ⟨b, o, none⟩) d.args.length c1)) 55)) w5 u5 _ (by rfl) (HS.out.keep (HXq.out.trans H5.out.out.2)) v5 _ (by rfl) (Row.of_own H5.out.out.1) (HLEN.out) ?_); intro v6 W6 hO6; have H6 := Hid.mk' hO6; clear hO6; have S6 := Hid.mk' True.intro))
              go_roundw
              case rel => exact ⟨j + 1, by omega, by go_num, by rw [HT.out]; exact H6.out⟩
              case measure => simp [intOf]; omega
          · have h2' : ¬ (j : Int) < (d.args.length : Int) := by omega
            have HT : Hid (d.args.take j = d.args) := List.take_of_length_le (by omega)
            rw [HT.out] at HS
            have hw : wrF t = line d t := by
              have e : numOf t.kind = some d := HE.out
              unfold wrF; rw [e]
            have hjn := join_any wr u5 (d.word :: tells d.args t) ⟨#[32]⟩ (Row.of_own HS.out.1) (by simp) (by have := HLA.out; have := tells_len t d.args; have h1 := HO.out.l; simp only [List.length_cons]; have : d.args.length * (1 + t.l.length) ≤ 3 * (1 + t.l.length) := Nat.mul_le_mul_right _ HLA.out; omega) (by have := HLN.out; rw [hw] at this; exact this)
            have HW := Hid.mk' hw
            clear hw
            go_wp2_with (first
              | (go_at_call 32; refine hjn.mono ?_; clear hjn; rintro e w7 ⟨rfl, hk7⟩; have HK7 := Hid.mk' hk7; clear hk7))
            go_ret
            refine ⟨by rw [HW.out]; rfl, ?_⟩
            exact (((HK0.out.trans HK2.out).trans HX.out).trans HS.out.2).trans HK7.out
      · have HE := Hid.mk' (find_take HD.out HI.out.1 hw2)
        have S0 := Hid.mk' True.intro
        go_wp2_with (first
          | (clear S0; refine wpList_load_kd rfl _ rfl g (k * 3) _ _ _ (by rfl) HR.out ?_; have S1 := Hid.mk' True.intro)
          | (clear S1; refine wpList_alloc_kd rfl rfl ?_; have S2 := Hid.mk' True.intro)
          | (clear S2; refine wpList_store_kd rfl _ _ rfl d.num d.word p1 d.args.length c1 (by rfl) (by rfl) ?_; have S3 := Hid.mk' True.intro))
        go_roundw
        case rel => exact ⟨k + 1, by omega, by go_num, HE.out, HI.out.2.trans HX.out⟩
        case measure => simp [intOf]; omega
    · have h1' : ¬ (k : Int) < 21 := by omega
      have hk21 : k = 21 := by omega
      have HE : Hid (numOf t.kind = none) := by have := HI.out.1; rw [List.take_of_length_le (by rw [hk21]; exact Nat.le_refl 21)] at this; exact this
      clear hk21
      go_wp2
      go_ret
      have e : wrF t = [] := by unfold wrF; rw [HE.out]
      rw [e]
      exact ⟨rfl, HK0.out.trans HK2.out⟩
end Go.Proofs.YtngoifbflpeapacGreatDoor

