import Derived.Test.YtdlhdompemkjfaaGreatDoorK26
import Derived.Test.YtdlhdompemkjfaaGreatDoorK31
namespace Go.Proofs.YtdlhdompemkjfaaGreatDoor
open Go.RowKit Go.Maps
set_option maxRecDepth 100000

/-! A step that shares no list. -/
set_option maxHeartbeats 4000000 in
theorem copyStep_any (w : World) (t : St) (v : Value) (hr : Row w v t.l.length (ints t.l)) (hl : t.l.length ≤ 17592186044416) :
    Calls Tryz.prog 8 #[.agg (scell t v)] w fun e w' => ∃ v', e = .returned (.agg (scell t v')) ∧ Hid (w'.ownsRow w.heap.size 3 1 v' t.l.length (ints t.l) ∧ Keeps (fun _ => False) w w') := by
  obtain ⟨p, c, rfl, _, _⟩ := id hr
  have HR := Hid.mk' hr
  have HL := Hid.mk' hl
  clear hr hl
  unfold scell
  have HK3 := Hid.mk' ((((Keeps.refl (fun _ => False) w).alloc (.cells #[.int .i64 t.kind, .string t.a, .string t.b, .int .i64 t.n, .int .i64 t.m, .int .i64 t.k, .slice p t.l.length c] 24)).alloc (.cells #[.int .i64 0, .string ⟨#[]⟩, .string ⟨#[]⟩, .int .i64 0, .int .i64 0, .int .i64 0, .slice none 0 0] 24)).alloc (.cells #[.int .i64 t.kind, .string t.a, .string t.b, .int .i64 t.n, .int .i64 t.m, .int .i64 t.k, .slice none 0 0] 24))
  have HB3 := Hid.mk' (three_blocks w (.cells #[.int .i64 t.kind, .string t.a, .string t.b, .int .i64 t.n, .int .i64 t.m, .int .i64 t.k, .slice p t.l.length c] 24) (.cells #[.int .i64 0, .string ⟨#[]⟩, .string ⟨#[]⟩, .int .i64 0, .int .i64 0, .int .i64 0, .slice none 0 0] 24) (.cells #[.int .i64 t.kind, .string t.a, .string t.b, .int .i64 t.n, .int .i64 t.m, .int .i64 t.k, .slice none 0 0] 24))
  go_enter Tryz.func8, Tryz.ntmps8
  have S0 := Hid.mk' True.intro
  go_wp2_with (first
    | (clear S0; refine wpList_alloc_st rfl rfl ?_; have S1 := Hid.mk' True.intro)
    | (clear S1; at_builtin; go_must (refine wpList_appi rfl _ _ rfl w.heap.size _ (by rfl) HK3.out.size _ t.l (by rfl) (HR.out.keep HK3.out) HL.out ?_)
       intro v2 W2 hown hk2
       obtain ⟨ra, rc, hr2, _⟩ := Row.of_own hown
       subst hr2
       have b3 := hk2.at HB3.out.2.2.1 id
       have HE := Hid.mk' (sh_end (hk2.at HB3.out.2.1 id) b3 hown (HK3.out.trans hk2))
       have c2 : W2.cell? ⟨w.heap.size + 1 + 1, 6, none⟩ = some (.slice none 0 0) := by simp only [World.cell?, b3]; rfl
       have f2 : W2.frozen? ⟨w.heap.size + 1 + 1, 6, none⟩ = false := by simp only [World.frozen?, b3]; simp
       clear hown hk2 b3
       have S2 := Hid.mk' True.intro)
    | (clear S2; refine wpList_load_row rfl 24 (.tmp 3) rfl (w.heap.size + 1 + 1) (by rfl) 24 #[.int .i64 t.kind, .string t.a, .string t.b, .int .i64 t.n, .int .i64 t.m, .int .i64 t.k, .slice ra t.l.length rc] (0, 0) _ HE.out.1 Tryz.underlying24 rfl size24 ?_; have S3 := Hid.mk' True.intro)
    | (clear S3; refine wpList_store_row rfl 24 (.tmp 2) _ rfl (w.heap.size + 1) #[.int .i64 t.kind, .string t.a, .string t.b, .int .i64 t.n, .int .i64 t.m, .int .i64 t.k, .slice ra t.l.length rc] (by rfl) (by rfl) 24 szero HE.out.2.1 size24 rfl (by simp [Value.oneCell']) ?_; have S4 := Hid.mk' True.intro))
  exact bodyPost_ret (results_cell_row rfl _ _ (w.heap.size + 1) 24 #[.int .i64 t.kind, .string t.a, .string t.b, .int .i64 t.n, .int .i64 t.m, .int .i64 t.k, .slice ra t.l.length rc] (0, 0) _ rfl (setRow_heap _ _ _ _ _ _ HE.out.2.1) Tryz.underlying24 rfl size24) rfl ⟨.slice ra t.l.length rc, rfl, HE.out.2.2 _⟩
end Go.Proofs.YtdlhdompemkjfaaGreatDoor

namespace Go.Proofs.YtdlhdompemkjfaaGreatDoor
open Go.RowKit Go.Maps
set_option maxRecDepth 100000

/-! P19.5: Print of any step is the document's. -/
set_option maxHeartbeats 2000000 in
theorem short_yes (w : World) (t : St) (p : Option Addr) (c : Nat) (h : t.a.size + t.b.size + t.l.length ≤ 100000) :
    Calls Tryz.prog 7 #[.agg (scell t (.slice p t.l.length c))] w fun e w' => e = .returned (.bool true) ∧ Keeps (fun _ => False) w w' := by
  have HK0 := Hid.mk' ((Keeps.refl (fun _ => False) w).alloc (.cells (scell t (.slice p t.l.length c)) 24))
  have h1 : (t.a.size : Int) + (t.b.size : Int) + (t.l.length : Int) ≤ 100000 := by omega
  unfold scell at *
  go_enter Tryz.func7, Tryz.ntmps7
  go_wp2
  go_ret
  exact ⟨by first | rfl | (congr 2; simpa using h1) | (congr 2; rw [decide_eq_true_eq]; omega), HK0.out⟩
set_option maxHeartbeats 2000000 in
theorem short_no (w : World) (t : St) (p : Option Addr) (c : Nat) (h : ¬ t.a.size + t.b.size + t.l.length ≤ 100000) (hl : t.l.length ≤ 17592186044416) (ha : t.a.size ≤ 140737488355328) (hb : t.b.size ≤ 140737488355328) :
    Calls Tryz.prog 7 #[.agg (scell t (.slice p t.l.length c))] w fun e w' => e = .returned (.bool false) ∧ Keeps (fun _ => False) w w' := by
  have HK0 := Hid.mk' ((Keeps.refl (fun _ => False) w).alloc (.cells (scell t (.slice p t.l.length c)) 24))
  have h1 : ¬ (t.a.size : Int) + (t.b.size : Int) + (t.l.length : Int) ≤ 100000 := by omega
  unfold scell at *
  go_enter Tryz.func7, Tryz.ntmps7
  go_wp2
  go_ret
  exact ⟨by first | rfl | (congr 2; simpa using h1) | (congr 2; rw [decide_eq_false_iff_not]; omega), HK0.out⟩
set_option maxHeartbeats 8000000 in
theorem prints_walk (w : World) (hv : Vars w) (kv : KV w) (t : St) (v : Value) (hr : Row w v t.l.length (ints t.l)) (_hk0 : -9223372036854775808 ≤ t.kind ∧ t.kind ≤ 9223372036854775807) (hl : t.l.length ≤ 17592186044416) (hi : InS t) (ha : t.a.size ≤ 140737488355328) (hb : t.b.size ≤ 140737488355328) :
    Calls Tryz.prog 3 #[.agg (scell t v)] w fun e w' => e = .returned (.bool true) ∧ Keeps (fun _ => False) w w' := by
  obtain ⟨p, c, rfl, _, _⟩ := id hr
  have HK0 := Hid.mk' ((Keeps.refl (fun _ => False) w).alloc (.cells (scell t (.slice p t.l.length c)) 24))
  have HB0 := Hid.mk' (heap_last w (.cells (scell t (.slice p t.l.length c)) 24))
  by_cases hs : t.a.size + t.b.size + t.l.length ≤ 100000
  case neg =>
    have h7 := fun W => short_no W t p c hs hl ha hb
    clear hr hv kv hi ha hb hs
    unfold scell at h7 HK0
    unfold scell
    go_enter Tryz.func3, Tryz.ntmps3
    have S0 := Hid.mk' True.intro
    go_wp2_with (first
      | (clear S0; refine wpList_load_row rfl 24 (.tmp 1) rfl w.heap.size (by rfl) 24 (scell t (.slice p t.l.length c)) (0, 0) _ HB0.out Tryz.underlying24 rfl size24 ?_; have S1 := Hid.mk' True.intro)
      | (clear S1; go_at_call 7; refine (h7 _).mono ?_; clear h7; rintro e w1 ⟨rfl, hk1⟩; have HK1 := Hid.mk' hk1; clear hk1; have S2 := Hid.mk' True.intro))
    go_ret
    exact ⟨rfl, HK0.out.trans HK1.out⟩
  have ho : OkS t := ⟨by omega, by omega, hi.n, hi.m, hi.k, by omega, hi.o⟩
  have HROW := Hid.mk' (hr.keep HK0.out)
  have HV := Hid.mk' (hv.keep HK0.out)
  have HKV := Hid.mk' (kv.keep HK0.out)
  have h7 := fun W => short_yes W t p c hs
  have h8 := fun W v hr => copyStep_any W t v hr hl
  have h9 := fun W h v hr => print_any W h t v hr ho (wrF_le ho)
  have h10 := fun W v z hr hz => lsame_any W t t v z hr hz (by omega)
  have h11 := fun W h v hr => rprint_any W h t v hr ho
  have HSR := Hid.mk' (smF_refl t)
  clear hr hv kv hi ha hb hs ho hl
  generalize mkB (prF t) = PR at *
  unfold scell at h7 h8 h9 h10 h11 HK0 HROW HV HKV
  unfold scell
  go_enter Tryz.func3, Tryz.ntmps3
  have S0 := Hid.mk' True.intro
  go_wp2_with (first
    | (clear S0; refine wpList_load_row rfl 24 (.tmp 1) rfl w.heap.size (by rfl) 24 (scell t (.slice p t.l.length c)) (0, 0) _ HB0.out Tryz.underlying24 rfl size24 ?_; have S1 := Hid.mk' True.intro)
    | (clear S1; go_at_call 7; refine (h7 _).mono ?_; clear h7; rintro e w1 ⟨rfl, hk1⟩; have HK1 := Hid.mk' hk1; have HB1 := Hid.mk' (hk1.at HB0.out id); clear hk1; have S2 := Hid.mk' True.intro)
    | (clear S2; refine wpList_load_row rfl 24 (.tmp 1) rfl w.heap.size (by rfl) 24 (scell t (.slice p t.l.length c)) (0, 0) _ HB1.out Tryz.underlying24 rfl size24 ?_; have S3 := Hid.mk' True.intro)
    | (clear S3; go_at_call 8; refine (h8 _ _ (HROW.out.keep HK1.out)).mono ?_; rintro e w2 ⟨v2, rfl, h2⟩; obtain ⟨p2, c2, hv2, _, _⟩ := id (Row.of_own h2.out.1); subst hv2; have H2 := Hid.mk' h2.out; clear h2; have HX2 := Hid.mk' (HK1.out.trans (H2.out.2.alloc (.cells (scell t (.slice p2 t.l.length c2)) 24))); have HN2 := Hid.mk' (heap_last w2 (.cells (scell t (.slice p2 t.l.length c2)) 24)); have HR2 := Hid.mk' ((Row.of_own H2.out.1).keep ((Keeps.refl (fun _ => False) w2).alloc (.cells (scell t (.slice p2 t.l.length c2)) 24))); have S4 := Hid.mk' True.intro)
    | (clear S4; refine wpList_alloc_st rfl rfl ?_; have S5 := Hid.mk' True.intro)
    | (clear S5; refine wpList_store_st rfl _ _ rfl t p2 t.l.length c2 (by rfl) (by rfl) ?_; have S6 := Hid.mk' True.intro)
    | (clear S6; refine wpList_load_row rfl 24 (.tmp 3) rfl w2.heap.size (by rfl) 24 (scell t (.slice p2 t.l.length c2)) (0, 0) _ HN2.out Tryz.underlying24 rfl size24 ?_; have S7 := Hid.mk' True.intro)
    | (clear S7; go_at_call 9; refine (h9 _ (HV.out.keep HX2.out) _ HR2.out).mono ?_; clear h9; rintro e w3 ⟨rfl, hk3⟩; have HK3 := Hid.mk' hk3; have HX3 := Hid.mk' (HX2.out.trans hk3); have HB3 := Hid.mk' (HX3.out.at HB0.out id); have HN3 := Hid.mk' (hk3.at HN2.out id); clear hk3; have S8 := Hid.mk' True.intro)
    | (clear S8; refine wpList_load_row rfl 24 (.tmp 3) rfl w2.heap.size (by rfl) 24 (scell t (.slice p2 t.l.length c2)) (0, 0) _ HN3.out Tryz.underlying24 rfl size24 ?_; have S9 := Hid.mk' True.intro)
    | (clear S9; refine wpList_load_row rfl 24 (.tmp 1) rfl w.heap.size (by rfl) 24 (scell t (.slice p t.l.length c)) (0, 0) _ HB3.out Tryz.underlying24 rfl size24 ?_; have S10 := Hid.mk' True.intro)
    | (clear S10; go_at_call 10; refine (h10 _ _ _ (HR2.out.keep HK3.out) (HROW.out.keep HX3.out)).mono ?_; clear h10; rintro e w4 ⟨rfl, hk4⟩; rw [HSR.out]; have HX4 := Hid.mk' (HX3.out.trans hk4); clear hk4; have d0 := HX4.out.cell (new_cell w (scell t (.slice p t.l.length c)) 24 0 (.int .i64 t.kind) rfl) id; have d1 := HX4.out.cell (new_cell w (scell t (.slice p t.l.length c)) 24 1 (.string t.a) rfl) id; have d2 := HX4.out.cell (new_cell w (scell t (.slice p t.l.length c)) 24 2 (.string t.b) rfl) id; have d3 := HX4.out.cell (new_cell w (scell t (.slice p t.l.length c)) 24 3 (.int .i64 t.n) rfl) id; have d4 := HX4.out.cell (new_cell w (scell t (.slice p t.l.length c)) 24 4 (.int .i64 t.m) rfl) id; have d5 := HX4.out.cell (new_cell w (scell t (.slice p t.l.length c)) 24 5 (.int .i64 t.k) rfl) id; have d6 := HX4.out.cell (new_cell w (scell t (.slice p t.l.length c)) 24 6 (.slice p t.l.length c) rfl) id; have S11 := Hid.mk' True.intro)
    | (clear S11; go_at_call 8; refine (h8 _ _ (HROW.out.keep HX4.out)).mono ?_; clear h8; rintro e w5 ⟨v5, rfl, h5⟩; obtain ⟨p5, c5, hv5, _, _⟩ := id (Row.of_own h5.out.1); subst hv5; have H5 := Hid.mk' h5.out; clear h5; have S12 := Hid.mk' True.intro)
    | (clear S12; go_at_call 11; refine (h11 _ (HKV.out.keep (HX4.out.trans H5.out.2)) _ (Row.of_own H5.out.1)).mono ?_; clear h11; rintro e w6 ⟨rfl, hk6⟩; have HK6 := Hid.mk' hk6; clear hk6; have S13 := Hid.mk' True.intro))
  go_ret
  exact ⟨by first | rfl | simp, ((HK0.out.trans HX4.out).trans H5.out.2).trans HK6.out⟩
end Go.Proofs.YtdlhdompemkjfaaGreatDoor
