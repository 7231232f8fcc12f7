import Derived.Test.YtdlhdompemkjfaaGreatDoorK14
import Derived.Test.YtdlhdompemkjfaaGreatDoorK16
namespace Go.Proofs.YtdlhdompemkjfaaGreatDoor
open Go.RowKit Go.Maps
set_option maxRecDepth 100000

theorem kd_args3 : ∀ k ∈ kds, k.args.length ≤ 3 := by decide
theorem join_any (w : World) (v : Value) (l : List ByteArray) (sep : ByteArray) (h : Row w v l.length (strs l)) (h0 : 0 < l.length) (hl : l.length ≤ 100000000) (hj : (Lib.join (l.map (·.data.toList)) sep.data.toList).length ≤ 140737488355328) :
    Calls Tryz.prog 35 #[v, .string sep] w fun e w' => e = .returned (.string (mkB (Lib.join (l.map (·.data.toList)) sep.data.toList))) ∧ Keeps (fun _ => False) w w' := by
  obtain ⟨p, c, rfl, hc, hcell⟩ := h
  obtain ⟨b, o, rfl, hb, hr⟩ := hcell h0
  refine (Tryz.strings_Join b o c l sep w (fun j x hx => hr j _ (by simp [strs, hx])) hb (by omega) hc hj).mono ?_
  rintro e w' ⟨rfl, hb2⟩
  exact ⟨rfl, Keeps.ofBelow hb2⟩

set_option maxHeartbeats 4000000 in
theorem written_any (w : World) (hv : Vars w) (t : St) (v : Value) (hr : Row w v t.l.length (ints t.l)) (ho : OkS t) (hln : (wrF t).length ≤ 140737488355328) :
    Calls Tryz.prog 18 #[.agg (scell t v)] w fun e w' => e = .returned (.string (mkB (wrF t))) ∧ Keeps (fun _ => False) w w' := by
  obtain ⟨p, c, rfl, _, _⟩ := id hr
  have HRow := Hid.mk' hr
  have HV := Hid.mk' hv
  have HO := Hid.mk' ho
  have HLN := Hid.mk' hln
  have h32 := kinds_any
  have HK0 := Hid.mk' ((Keeps.refl (fun _ => False) w).alloc (.cells (scell t (.slice p t.l.length c)) 24))
  have HB0 := Hid.mk' (heap_last w (.cells (scell t (.slice p t.l.length c)) 24))
  have d0 := new_cell w (scell t (.slice p t.l.length c)) 24 0 (.int .i64 t.kind) rfl
  clear hr hv ho hln
  unfold scell at HK0 HB0 d0
  unfold scell
  go_enter Tryz.func18, Tryz.ntmps18
  have S0 := Hid.mk' True.intro
  go_wp2_with (first | (clear S0; go_at_call 34; refine (h32 _).mono ?_; clear h32; rintro e w1 ⟨g, rfl, h1⟩; have H1 := Hid.mk' h1; clear h1; have S1 := Hid.mk' True.intro))
  go_loopw [10] (fun i wr => ∃ k : Nat, k ≤ 21 ∧ i = .int .i64 k ∧ Hid ((kds.take k).find? (fun d => d.num == t.kind) = none ∧ Keeps (fun _ => False) w1 wr)) (fun i _ => 21 - (intOf i).toNat)
  case atStart => exact ⟨0, by omega, rfl, rfl, Keeps.refl _ _⟩
  case round =>
    rename World => wo
    obtain ⟨k, hk, rfl, HI⟩ := hrel
    clear S1
    have HK2 := Hid.mk' (H1.out.2.trans HI.out.2)
    by_cases h1 : k < 21
    · have h1' : (k : Int) < 21 := by omega
      obtain ⟨d, v, hd, hr2, hav⟩ := kd_rows wo g (H1.out.1.keep HI.out.2) k h1
      obtain ⟨p1, c1, rfl, _⟩ := hav.shape
      have HD := Hid.mk' hd
      have HR := Hid.mk' hr2
      have HAV := Hid.mk' hav
      have HX := Hid.mk' ((Keeps.refl (fun _ => False) wo).alloc (.cells (kcell d.num d.word (.slice p1 d.args.length c1)) 63))
      have n0 := new_cell wo (kcell d.num d.word (.slice p1 d.args.length c1)) 63 0 (.int .i64 d.num) rfl
      have n1 := new_cell wo (kcell d.num d.word (.slice p1 d.args.length c1)) 63 1 (.string d.word) rfl
      have n2 := new_cell wo (kcell d.num d.word (.slice p1 d.args.length c1)) 63 2 (.slice p1 d.args.length c1) rfl
      have n3 := ((Keeps.refl (fun _ => False) (wo.alloc (.cells (kcell d.num d.word (.slice p1 d.args.length c1)) 63))).alloc (.cells #[.string d.word] 9)).cell n2 id
      have HLA := Hid.mk' (kd_args3 d (List.mem_of_getElem? hd))
      have e0 := HX.out.cell (HK2.out.cell d0 id) id
      clear hd hr2 hav
      rcases Bool.eq_false_or_eq_true (d.num == t.kind) with hw2 | hw2
      · have HE := Hid.mk' (find_hit HD.out HI.out.1 hw2)
        have S0 := Hid.mk' True.intro
        go_wp2_with (first
          | (clear S0; refine wpList_load_kd rfl _ rfl g (k * 3) _ _ _ (by rfl) HR.out ?_; have S1 := Hid.mk' True.intro)
          | (clear S1; refine wpList_alloc_kd rfl rfl ?_; have S2 := Hid.mk' True.intro)
          | (clear S2; refine wpList_store_kd rfl _ _ rfl d.num d.word p1 d.args.length c1 (by rfl) (by rfl) ?_; have S3 := Hid.mk' True.intro))
        have HS0 := Hid.mk' (SR.one (Keeps.refl (fun _ => False) (wo.alloc (.cells (kcell d.num d.word (.slice p1 d.args.length c1)) 63))) d.word)
        rw [World.size_alloc] at HS0
        clear n0 n1 n2 n3 e0
        go_loopw [5, 25] (fun v i wq => ∃ j : Nat, j ≤ d.args.length ∧ i = .int .i64 j ∧ Hid (SR (wo.alloc (.cells (kcell d.num d.word (.slice p1 d.args.length c1)) 63)) wq v (d.word :: tells (d.args.take j) t))) (fun _ i _ => d.args.length - (intOf i).toNat)
        case atStart => exact ⟨0, Nat.zero_le _, rfl, HS0.out⟩
        case round =>
          obtain ⟨j, hj, rfl, HS⟩ := hrel
          clear HS0
          by_cases h2 : j < d.args.length
          · have h2' : (j : Int) < (d.args.length : Int) := by omega
            obtain ⟨a, ha⟩ : ∃ a, d.args[j]? = some a := ⟨d.args[j], by simp [h2]⟩
            obtain ⟨b, o, hp1, hb, hr⟩ := ((HAV.out.keep HX.out).keep HS.out.2).range ha
            subst hp1
            have HR2 := Hid.mk' hr
            have HT : Hid (d.word :: tells (d.args.take (j + 1)) t = (d.word :: tells (d.args.take j) t) ++ tlF a t) := by show _ = _; rw [tells_take t ha]; rfl
            have HXq := Hid.mk' ((Keeps.refl (fun _ => False) wr).alloc (.cells (acell a) 74))
            have HKq := Hid.mk' (((HK2.out.trans HX.out).trans HS.out.2).trans HXq.out)
            have HBq := Hid.mk' (HKq.out.at HB0.out id)
            have htl := tell_any a _ (HV.out.keep (HK0.out.trans HKq.out)) t _ (HRow.out.keep (HK0.out.trans HKq.out)) HO.out
            have HLEN : Hid ((d.word :: tells (d.args.take j) t).length + (tlF a t).length ≤ 1000000000) := by
              show _ ≤ _
              have h1 := tells_len t (d.args.take j)
              have h3 := tlF_len a t
              have h4 := HO.out.l
              have h5 : (d.args.take j).length ≤ 3 := by rw [List.length_take]; have := HLA.out; have h6 : d.args.length ≤ 3 := HLA.out; omega
              have h6 : (d.args.take j).length * (1 + t.l.length) ≤ 3 * (1 + t.l.length) := Nat.mul_le_mul_right _ h5
              simp only [List.length_cons]
              omega
            clear hr hb ha
            cases a with
            | A =>
              have q3 := new_cell wr (acell .A) 74 3 (.func (.func 69) #[] #[]) rfl
              have h3l : d.args.length ≤ 3 := HLA.out
              have S0 := Hid.mk' True.intro
              go_wp2_with (first
                | (clear S0; refine wpList_load_arg rfl _ rfl b (o + j * 4) .A (by rfl) HR2.out ?_; have S1 := Hid.mk' True.intro)
                | (clear S1; refine wpList_alloc_a rfl rfl ?_; have S2 := Hid.mk' True.intro)
                | (clear S2; refine wpList_store_new rfl _ _ rfl .A (by rfl) (by rfl) ?_; have S3 := Hid.mk' True.intro)
                | (clear S3; refine wpList_load_row rfl 24 (.tmp 1) rfl w.heap.size (by rfl) 24 (scell t (.slice p t.l.length c)) (0, 0) _ HBq.out Tryz.underlying24 rfl size24 ?_; have S4 := Hid.mk' True.intro)
                | (clear S4; go_at_call 69; refine htl.mono ?_; clear htl; rintro e w5 ⟨v5, rfl, h5⟩; have H5 := Hid.mk' h5; clear h5; have S5 := Hid.mk' True.intro)
                | (clear S5; at_builtin; go_must (refine wpList_appl rfl _ _ rfl (wo.alloc (.cells (kcell d.num d.word (.slice (some ⟨b, o, none⟩) d.args.length c1)) 63)) w5 u5 _ (by rfl) (HS.out.keep (HXq.out.trans H5.out.out.2)) v5 _ (by rfl) (Row.of_own H5.out.out.1) (HLEN.out) ?_); intro v6 W6 hO6; have H6 := Hid.mk' hO6; clear hO6; have S6 := Hid.mk' True.intro))
              go_roundw
              case rel => exact ⟨j + 1, by omega, by go_num, by rw [HT.out]; exact H6.out⟩
              case measure => simp [intOf]; omega
            | B =>
              have q3 := new_cell wr (acell .B) 74 3 (.func (.func 72) #[] #[]) rfl
              have h3l : d.args.length ≤ 3 := HLA.out
              have S0 := Hid.mk' True.intro
              go_wp2_with (first
                | (clear S0; refine wpList_load_arg rfl _ rfl b (o + j * 4) .B (by rfl) HR2.out ?_; have S1 := Hid.mk' True.intro)
                | (clear S1; refine wpList_alloc_a rfl rfl ?_; have S2 := Hid.mk' True.intro)
                | (clear S2; refine wpList_store_new rfl _ _ rfl .B (by rfl) (by rfl) ?_; have S3 := Hid.mk' True.intro)
                | (clear S3; refine wpList_load_row rfl 24 (.tmp 1) rfl w.heap.size (by rfl) 24 (scell t (.slice p t.l.length c)) (0, 0) _ HBq.out Tryz.underlying24 rfl size24 ?_; have S4 := Hid.mk' True.intro)
                | (clear S4; go_at_call 72; refine htl.mono ?_; clear htl; rintro e w5 ⟨v5, rfl, h5⟩; have H5 := Hid.mk' h5; clear h5; have S5 := Hid.mk' True.intro)
                | (clear S5; at_builtin; go_must (refine wpList_appl rfl _ _ rfl (wo.alloc (.cells (kcell d.num d.word (.slice (some ⟨b, o, none⟩) d.args.length c1)) 63)) w5 u5 _ (by rfl) (HS.out.keep (HXq.out.trans H5.out.out.2)) v5 _ (by rfl) (Row.of_own H5.out.out.1) (HLEN.out) ?_); intro v6 W6 hO6; have H6 := Hid.mk' hO6; clear hO6; have S6 := Hid.mk' True.intro))
              go_roundw
              case rel => exact ⟨j + 1, by omega, by go_num, by rw [HT.out]; exact H6.out⟩
              case measure => simp [intOf]; omega
            | N =>
              have q3 := new_cell wr (acell .N) 74 3 (.func (.func 75) #[] #[]) rfl
              have h3l : d.args.length ≤ 3 := HLA.out
              have S0 := Hid.mk' True.intro
              go_wp2_with (first
                | (clear S0; refine wpList_load_arg rfl _ rfl b (o + j * 4) .N (by rfl) HR2.out ?_; have S1 := Hid.mk' True.intro)
                | (clear S1; refine wpList_alloc_a rfl rfl ?_; have S2 := Hid.mk' True.intro)
                | (clear S2; refine wpList_store_new rfl _ _ rfl .N (by rfl) (by rfl) ?_; have S3 := Hid.mk' True.intro)
                | (clear S3; refine wpList_load_row rfl 24 (.tmp 1) rfl w.heap.size (by rfl) 24 (scell t (.slice p t.l.length c)) (0, 0) _ HBq.out Tryz.underlying24 rfl size24 ?_; have S4 := Hid.mk' True.intro)
                | (clear S4; go_at_call 75; refine htl.mono ?_; clear htl; rintro e w5 ⟨v5, rfl, h5⟩; have H5 := Hid.mk' h5; clear h5; have S5 := Hid.mk' True.intro)
                | (clear S5; at_builtin; go_must (refine wpList_appl rfl _ _ rfl (wo.alloc (.cells (kcell d.num d.word (.slice (some ⟨b, o, none⟩) d.args.length c1)) 63)) w5 u5 _ (by rfl) (HS.out.keep (HXq.out.trans H5.out.out.2)) v5 _ (by rfl) (Row.of_own H5.out.out.1) (HLEN.out) ?_); intro v6 W6 hO6; have H6 := Hid.mk' hO6; clear hO6; have S6 := Hid.mk' True.intro))
              go_roundw
              case rel => exact ⟨j + 1, by omega, by go_num, by rw [HT.out]; exact H6.out⟩
              case measure => simp [intOf]; omega
            | M =>
              have q3 := new_cell wr (acell .M) 74 3 (.func (.func 78) #[] #[]) rfl
              have h3l : d.args.length ≤ 3 := HLA.out
              have S0 := Hid.mk' True.intro
              go_wp2_with (first
                | (clear S0; refine wpList_load_arg rfl _ rfl b (o + j * 4) .M (by rfl) HR2.out ?_; have S1 := Hid.mk' True.intro)
                | (clear S1; refine wpList_alloc_a rfl rfl ?_; have S2 := Hid.mk' True.intro)
                | (clear S2; refine wpList_store_new rfl _ _ rfl .M (by rfl) (by rfl) ?_; have S3 := Hid.mk' True.intro)
                | (clear S3; refine wpList_load_row rfl 24 (.tmp 1) rfl w.heap.size (by rfl) 24 (scell t (.slice p t.l.length c)) (0, 0) _ HBq.out Tryz.underlying24 rfl size24 ?_; have S4 := Hid.mk' True.intro)
                | (clear S4; go_at_call 78; refine htl.mono ?_; clear htl; rintro e w5 ⟨v5, rfl, h5⟩; have H5 := Hid.mk' h5; clear h5; have S5 := Hid.mk' True.intro)
                | (clear S5; at_builtin; go_must (refine wpList_appl rfl _ _ rfl (wo.alloc (.cells (kcell d.num d.word (.slice (some ⟨b, o, none⟩) d.args.length c1)) 63)) w5 u5 _ (by rfl) (HS.out.keep (HXq.out.trans H5.out.out.2)) v5 _ (by rfl) (Row.of_own H5.out.out.1) (HLEN.out) ?_); intro v6 W6 hO6; have H6 := Hid.mk' hO6; clear hO6; have S6 := Hid.mk' True.intro))
              go_roundw
              case rel => exact ⟨j + 1, by omega, by go_num, by rw [HT.out]; exact H6.out⟩
              case measure => simp [intOf]; omega
            | K =>
              have q3 := new_cell wr (acell .K) 74 3 (.func (.func 80) #[] #[]) rfl
              have h3l : d.args.length ≤ 3 := HLA.out
              have S0 := Hid.mk' True.intro
              go_wp2_with (first
                | (clear S0; refine wpList_load_arg rfl _ rfl b (o + j * 4) .K (by rfl) HR2.out ?_; have S1 := Hid.mk' True.intro)
                | (clear S1; refine wpList_alloc_a rfl rfl ?_; have S2 := Hid.mk' True.intro)
                | (clear S2; refine wpList_store_new rfl _ _ rfl .K (by rfl) (by rfl) ?_; have S3 := Hid.mk' True.intro)
                | (clear S3; refine wpList_load_row rfl 24 (.tmp 1) rfl w.heap.size (by rfl) 24 (scell t (.slice p t.l.length c)) (0, 0) _ HBq.out Tryz.underlying24 rfl size24 ?_; have S4 := Hid.mk' True.intro)
                | (clear S4; go_at_call 80; refine htl.mono ?_; clear htl; rintro e w5 ⟨v5, rfl, h5⟩; have H5 := Hid.mk' h5; clear h5; have S5 := Hid.mk' True.intro)
                | (clear S5; at_builtin; go_must (refine wpList_appl rfl _ _ rfl (wo.alloc (.cells (kcell d.num d.word (.slice (some ⟨b, o, none⟩) d.args.length c1)) 63)) w5 u5 _ (by rfl) (HS.out.keep (HXq.out.trans H5.out.out.2)) v5 _ (by rfl) (Row.of_own H5.out.out.1) (HLEN.out) ?_); intro v6 W6 hO6; have H6 := Hid.mk' hO6; clear hO6; have S6 := Hid.mk' True.intro))
              go_roundw
              case rel => exact ⟨j + 1, by omega, by go_num, by rw [HT.out]; exact H6.out⟩
              case measure => simp [intOf]; omega
            | L =>
              have q3 := new_cell wr (acell .L) 74 3 (.func (.func 82) #[] #[]) rfl
              have h3l : d.args.length ≤ 3 := HLA.out
              have S0 := Hid.mk' True.intro
              go_wp2_with (first
                | (clear S0; refine wpList_load_arg rfl _ rfl b (o + j * 4) .L (by rfl) HR2.out ?_; have S1 := Hid.mk' True.intro)
                | (clear S1; refine wpList_alloc_a rfl rfl ?_; have S2 := Hid.mk' True.intro)
                | (clear S2; refine wpList_store_new rfl _ _ rfl .L (by rfl) (by rfl) ?_; have S3 := Hid.mk' True.intro)
                | (clear S3; refine wpList_load_row rfl 24 (.tmp 1) rfl w.heap.size (by rfl) 24 (scell t (.slice p t.l.length c)) (0, 0) _ HBq.out Tryz.underlying24 rfl size24 ?_; have S4 := Hid.mk' True.intro)
                | (clear S4; go_at_call 82; refine htl.mono ?_; clear htl; rintro e w5 ⟨v5, rfl, h5⟩; have H5 := Hid.mk' h5; clear h5; have S5 := Hid.mk' True.intro)
                | (clear S5; at_builtin; go_must (refine wpList_appl rfl _ _ rfl (wo.alloc (.cells (kcell d.num d.word (.slice (some ⟨b, o, none⟩) d.args.length c1)) 63)) w5 u5 _ (by rfl) (HS.out.keep (HXq.out.trans H5.out.out.2)) v5 _ (by rfl) (Row.of_own H5.out.out.1) (HLEN.out) ?_); intro v6 W6 hO6; have H6 := Hid.mk' hO6; clear hO6; have S6 := Hid.mk' True.intro))
              go_roundw
              case rel => exact ⟨j + 1, by omega, by go_num, by rw [HT.out]; exact H6.out⟩
              case measure => simp [intOf]; omega
          · have h2' : ¬ (j : Int) < (d.args.length : Int) := by omega
            have HT : Hid (d.args.take j = d.args) := List.take_of_length_le (by omega)
            rw [HT.out] at HS
            have hw : wrF t = line d t := by
              have e : numOf t.kind = some d := HE.out
              unfold wrF; rw [e]
            have hjn := join_any wr u5 (d.word :: tells d.args t) ⟨#[32]⟩ (Row.of_own HS.out.1) (by simp) (by have := HLA.out; have := tells_len t d.args; have h1 := HO.out.l; simp only [List.length_cons]; have : d.args.length * (1 + t.l.length) ≤ 3 * (1 + t.l.length) := Nat.mul_le_mul_right _ HLA.out; omega) (by have := HLN.out; rw [hw] at this; exact this)
            have HW := Hid.mk' hw
            clear hw
            go_wp2_with (first
              | (go_at_call 35; refine hjn.mono ?_; clear hjn; rintro e w7 ⟨rfl, hk7⟩; have HK7 := Hid.mk' hk7; clear hk7))
            go_ret
            refine ⟨by rw [HW.out]; rfl, ?_⟩
            exact (((HK0.out.trans HK2.out).trans HX.out).trans HS.out.2).trans HK7.out
      · have HE := Hid.mk' (find_take HD.out HI.out.1 hw2)
        have S0 := Hid.mk' True.intro
        go_wp2_with (first
          | (clear S0; refine wpList_load_kd rfl _ rfl g (k * 3) _ _ _ (by rfl) HR.out ?_; have S1 := Hid.mk' True.intro)
          | (clear S1; refine wpList_alloc_kd rfl rfl ?_; have S2 := Hid.mk' True.intro)
          | (clear S2; refine wpList_store_kd rfl _ _ rfl d.num d.word p1 d.args.length c1 (by rfl) (by rfl) ?_; have S3 := Hid.mk' True.intro))
        go_roundw
        case rel => exact ⟨k + 1, by omega, by go_num, HE.out, HI.out.2.trans HX.out⟩
        case measure => simp [intOf]; omega
    · have h1' : ¬ (k : Int) < 21 := by omega
      have hk21 : k = 21 := by omega
      have HE : Hid (numOf t.kind = none) := by have := HI.out.1; rw [List.take_of_length_le (by rw [hk21]; exact Nat.le_refl 21)] at this; exact this
      clear hk21
      go_wp2
      go_ret
      have e : wrF t = [] := by unfold wrF; rw [HE.out]
      rw [e]
      exact ⟨rfl, HK0.out.trans HK2.out⟩
end Go.Proofs.YtdlhdompemkjfaaGreatDoor

namespace Go.Proofs.YtdlhdompemkjfaaGreatDoor
open Go.RowKit Go.Maps
set_option maxRecDepth 100000

theorem unq_len : ∀ (n : Nat) (t acc : Bs) (k : Nat), t.length ≤ n → ∀ a m, unq acc k t = some (a, m) → a.length + k ≤ acc.length + m := by
  intro n
  induction n with
  | zero =>
    intro t acc k h a m e
    have : t = [] := List.length_eq_zero_iff.1 (by omega)
    subst this
    rw [unq_nil] at e; cases e
  | succ n ih =>
    intro t acc k h a m e
    match t with
    | [] => rw [unq_nil] at e; cases e
    | b :: r =>
      rw [List.length_cons] at h
      by_cases h34 : b = 34
      · subst h34
        rw [unq_end] at e
        cases e
        omega
      · by_cases h92 : b = 92
        · subst h92
          by_cases hm : (mnt r).2 = 0
          · rw [unq_bad _ _ _ hm] at e; cases e
          · rw [unq_esc _ _ _ hm] at e
            have hle := mnt_le r
            have := ih (r.drop (mnt r).2) _ _ (by rw [List.length_drop]; omega) a m e
            rw [List.length_append, List.length_singleton] at this
            omega
        · cases hp : prt b with
          | true =>
            rw [unq_prt _ _ _ _ h34 h92 hp] at e
            have := ih r _ _ (by omega) a m e
            rw [List.length_append, List.length_singleton] at this
            omega
          | false => rw [unq_not _ _ _ _ h34 h92 hp] at e; cases e
theorem uq_len {t a : Bs} {m : Nat} (h : uq t = some (a, m)) : a.length ≤ t.length := by
  have h1 := (uq_le h).1
  match t with
  | [] => cases h
  | b :: r =>
    have e : (if b = 34 then unq [] 1 r else none) = some (a, m) := h
    by_cases hb : b = 34
    · rw [if_pos hb] at e
      have := unq_len r.length r [] 1 (Nat.le_refl _) a m e
      rw [List.length_nil] at this
      omega
    · rw [if_neg hb] at e; cases e
theorem fw_text (t : Bs) : (fw t).1.text.size ≤ t.length := by
  unfold fw
  split
  · unfold fwQ
    split
    · exact Nat.zero_le _
    · rename_i a n h
      split
      · exact Nat.zero_le _
      · show (mkB a).size ≤ _
        rw [mkB_size]; exact uq_len h
  · unfold fwP
    split
    · show (mkB _).size ≤ _
      rw [mkB_size, List.length_take]; omega
    · exact Nat.zero_le _
theorem wds_texts : ∀ (n : Nat) (t : Bs) (acc : List Wd) (M : Nat), t.length ≤ n → t.length ≤ M → (∀ x ∈ acc, x.text.size ≤ M) → ∀ ws, wds acc t = some ws → (∀ x ∈ ws, x.text.size ≤ M) ∧ ws.length ≤ acc.length + t.length := by
  intro n
  induction n with
  | zero =>
    intro t acc M h hM ha ws e
    have : t = [] := List.length_eq_zero_iff.1 (by omega)
    subst this
    rw [wds_nil] at e
    cases e
    exact ⟨ha, by simp⟩
  | succ n ih =>
    intro t acc M h hM ha ws e
    match t with
    | [] =>
      rw [wds_nil] at e
      cases e
      exact ⟨ha, by simp⟩
    | b :: r =>
      rw [List.length_cons] at h hM
      by_cases hb : b = 32
      · subst hb
        rw [wds_blank] at e
        have := ih r acc M (by omega) (by omega) ha ws e
        exact ⟨this.1, by rw [List.length_cons]; omega⟩
      · by_cases hf : (fw (b :: r)).2 = 0
        · rw [wds_bad hb hf] at e; cases e
        · rw [wds_word hb hf] at e
          have hle := fw_le (b :: r)
          rw [List.length_cons] at hle
          have hd : ((b :: r).drop (fw (b :: r)).2).length = r.length + 1 - (fw (b :: r)).2 := by rw [List.length_drop, List.length_cons]
          have := ih _ _ M (by rw [hd]; omega) (by rw [hd]; omega) (by
            intro x hx
            rcases List.mem_append.1 hx with hx | hx
            · exact ha x hx
            · have : x = (fw (b :: r)).1 := by simpa using hx
              rw [this]
              have := fw_text (b :: r)
              rw [List.length_cons] at this
              omega) ws e
          rw [hd, List.length_append, List.length_singleton] at this
          exact ⟨this.1, by rw [List.length_cons]; omega⟩
/-- Line's answer. -/
def lnE (t : Bs) : Int := if 20000 < t.length then 191 else match wds [] t with
  | none => 194
  | some ws => match kindOf ws with
    | none => 190
    | some k => if takesF k.args (ws.drop 1) = true then (match stF k.args 0 (st0 k.num) (ws.drop 1) with
      | none => 193
      | some _ => 0) else 192
def lnS (t : Bs) : St := if 20000 < t.length then st0 0 else match wds [] t with
  | none => st0 0
  | some ws => match kindOf ws with
    | none => st0 0
    | some k => if takesF k.args (ws.drop 1) = true then (stF k.args 0 (st0 k.num) (ws.drop 1)).getD (st0 0) else st0 0
theorem wcells_drop : ∀ (l : List Wd), wcells (l.drop 1) = (wcells l).drop 2
  | [] => rfl
  | _ :: _ => rfl
/-- A list of words without its first. -/
theorem Row.tail {W : World} {g n c : Nat} {l : List Wd} (h : Row W (.slice (some ⟨g, 0, none⟩) n c) l.length (wcells l)) (_ : 1 ≤ l.length) : Row W (.slice (some ⟨g, 2, none⟩) (n - 1) (c - 1)) (l.drop 1).length (wcells (l.drop 1)) ∧ (l.length = 1 → ∀ o c', Row W (.slice (some ⟨g, o, none⟩) 0 c') (l.drop 1).length (wcells (l.drop 1))) := by
  obtain ⟨p, c', e, hc, hr⟩ := h
  cases e
  constructor
  · refine ⟨_, _, by rw [List.length_drop], by rw [List.length_drop]; omega, fun h0 => ?_⟩
    rw [List.length_drop] at h0
    obtain ⟨b, o, e2, hb, hcell⟩ := hr (by omega)
    cases e2
    refine ⟨_, _, rfl, hb, fun j u hj => ?_⟩
    rw [wcells_drop, List.getElem?_drop] at hj
    have := hcell _ _ hj
    rw [Nat.zero_add] at this
    exact this
  · intro h1 o c'
    have : l.drop 1 = [] := List.drop_of_length_le (by omega)
    rw [this]
    exact ⟨_, _, rfl, Nat.zero_le _, fun h => absurd h (by simp)⟩
end Go.Proofs.YtdlhdompemkjfaaGreatDoor
