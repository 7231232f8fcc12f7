import Derived.Test.YtpgabmfpffaajaaDoorK17
namespace Go.Proofs.YtpgabmfpffaajaaDoor
open Go.RowKit Go.Maps
set_option maxRecDepth 100000

/-! The law RunStates. -/
theorem size_sta9 : (Tryd.prog.info? 27).map (·.size) = some 6 := by kernel_rfl
theorem wpList_wanted {P : Program} {ops : Array Oper} {rest : List Oper} {o : Oper} {a : Act} {w : World} {Q : Exit → Act → World → Prop} (hw : Region.wanted o (yielded ops a.tmps) = true)
    (h : wpList P ops Q ({ o with guard := none } :: rest) a w) : wpList P ops Q (o :: rest) a w := by
  unfold wpList at h ⊢
  rw [if_pos hw]
  rw [if_pos (by simp [Region.wanted])] at h
  exact h
theorem states_walk (w : World) (hv : Tab w) (t : Sta) (vn vf : Value) (hr : StaAt w t vn vf) (hi : StaIn t) :
    Calls Tryd.prog 3 #[.agg (tcell t vn vf)] w fun e w' => e = .returned (.bool true) ∧ Keeps (fun _ => False) w w' := by
  have HK0 := Hid.mk' ((Keeps.refl (fun _ => False) w).alloc (.cells (tcell t vn vf) 27))
  have HB0 := Hid.mk' (heap_last w (.cells (tcell t vn vf) 27))
  have HR := Hid.mk' (hr.keep HK0.out)
  have HT := Hid.mk' (hv.keep HK0.out)
  have h4 := fun W hv hr => rstate_any W hv t vn vf hr hi
  have h5 := fun W hv hr => state_any W hv t vn vf hr hi
  generalize staB t = SB at h4 h5
  clear hr hv hi
  obtain ⟨W0, hW0⟩ : ∃ W0, w.alloc (.cells (tcell t vn vf) 27) = W0 := ⟨_, rfl⟩
  rw [hW0] at HK0 HB0 HR HT
  go_enter Tryd.func3, Tryd.ntmps3
  go_upto_region 1 with (fail)
  try rw [hW0]
  clear hW0
  have S0 := Hid.mk' True.intro
  go_wp2_with (first
    | (clear S0; refine wpList_load_row rfl 27 (.tmp 1) rfl w.heap.size (by rfl) 27 (tcell t vn vf) (0, 0) _ HB0.out Tryd.underlying27 rfl size_sta9 ?_; have S1 := Hid.mk' True.intro)
    | (clear S1; go_at_call 4; refine (h4 _ HT.out HR.out).mono ?_; clear h4; rintro e w1 ⟨rfl, hk1⟩; have HK1 := Hid.mk' hk1; have HB1 := Hid.mk' (hk1.at HB0.out id); clear hk1; have S2 := Hid.mk' True.intro)
    | (clear S2; refine wpList_load_row rfl 27 (.tmp 1) rfl w.heap.size (by rfl) 27 (tcell t vn vf) (0, 0) _ HB1.out Tryd.underlying27 rfl size_sta9 ?_; have S3 := Hid.mk' True.intro)
    | (clear S3; go_at_call 5; refine (h5 _ (HT.out.keep HK1.out) (HR.out.keep HK1.out)).mono ?_; rintro e w2 ⟨rfl, hk2⟩; have HK2 := Hid.mk' (HK1.out.trans hk2); have HB2 := Hid.mk' (hk2.at HB1.out id); clear hk2; have S4 := Hid.mk' True.intro)
    | (clear S4; refine wpList_wanted (by rfl) ?_; refine wpList_load_row rfl 27 (.tmp 1) rfl w.heap.size (by rfl) 27 (tcell t vn vf) (0, 0) _ HB2.out Tryd.underlying27 rfl size_sta9 ?_; have S5 := Hid.mk' True.intro)
    | (clear S5; go_at_call 5; refine (h5 _ (HT.out.keep HK2.out) (HR.out.keep HK2.out)).mono ?_; clear h5; rintro e w3 ⟨rfl, hk3⟩; have HK3 := Hid.mk' (HK2.out.trans hk3); clear hk3; have S6 := Hid.mk' True.intro))
  go_ret
  exact ⟨rfl, HK0.out.trans HK3.out⟩
end Go.Proofs.YtpgabmfpffaajaaDoor
