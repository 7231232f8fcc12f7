import Derived.Test.YtndojlacdggfcabK1
namespace Go.Proofs.Ytndojlacdggfcab
open Go.RowKit

set_option maxRecDepth 100000 in
set_option maxHeartbeats 2000000 in
theorem makes_copy (w0 w : World) (b : Nat) (D off v : Int) (p : Option Addr) (c : Nat) (l : List Rn) (h : PL w0 w b) :
    Calls Try.prog 40 #[.pointer (some ⟨b, 0, none⟩), .agg #[.int .i64 7, .int .i64 D, .int .i64 off, .int .i64 v, .slice p l.length c]] w fun e w' => e = .returned (.bool true) ∧ PL w0 w' b := by
  have hd := plc_lt D (show 1 ≤ 3 by omega)
  have hpl := place_any D
  have hplv := place_q v
  have hdv := plc_lt v (show 1 ≤ 3 by omega)
  generalize plc D 3 = d at *
  generalize plc v 3 = dv at *
  obtain ⟨ts, rs, fs, ps, qs, hB, hk0, hb0, hn0⟩ := id h
  have HK1 := Hid.mk' (Keeps.new w (.cells #[.int .i64 7, .int .i64 D, .int .i64 off, .int .i64 v, .slice p l.length c] 68))
  have hbx := (MapKept.heap_alloc w (.cells #[.int .i64 7, .int .i64 D, .int .i64 off, .int .i64 v, .slice p l.length c] 68)).1
  obtain ⟨W1, hW1⟩ : ∃ W1, w.alloc (.cells #[.int .i64 7, .int .i64 D, .int .i64 off, .int .i64 v, .slice p l.length c] 68) = W1 := ⟨_, rfl⟩
  rw [hW1] at HK1 hbx
  have HBX : Hid (∀ W, Keeps (fun _ => False) W1 W → W.cell? ⟨w.heap.size, 0, none⟩ = some (.int .i64 7) ∧ W.cell? ⟨w.heap.size, 1, none⟩ = some (.int .i64 D) ∧ W.cell? ⟨w.heap.size, 3, none⟩ = some (.int .i64 v) ∧ W.cell? ⟨w.heap.size, 4, none⟩ = some (.slice p l.length c)) := fun W hk => by
    have := hk.at hbx id
    simp [World.cell?, this]
  clear hbx
  obtain ⟨o0, o1, o3, o4⟩ := HBX.out W1 (Keeps.refl _ _)
  have hd3 : (d : Int) < 3 := by omega
  have hd0 : (0 : Int) ≤ d := by omega
  have hN : ∀ wx, Keeps (fun _ => False) W1 wx → Calls Try.prog 24 #[] wx fun e w' => ∃ t, e = .returned (.pointer (some ⟨t, 0, none⟩)) ∧ Hid (W1.heap.size ≤ t ∧ Keeps (fun _ => False) W1 w' ∧ TreeAt w' t (fun _ => 0)) ∧ w'.cell? ⟨w.heap.size, 0, none⟩ = some (.int .i64 7) := fun wx hk =>
    (new_any wx).mono fun e w' ⟨he, hw⟩ => ⟨_, he, ⟨hk.size, by rw [hw]; exact hk.trans (Keeps.new wx _), by rw [hw]; exact new_tree wx⟩, (HBX.out w' (by rw [hw]; exact hk.trans (Keeps.new wx _))).1⟩
  have hNR : ∀ wx t, (W1.heap.size ≤ t ∧ Keeps (fun _ => False) W1 wx ∧ TreeAt wx t (fun _ => 0)) → Calls Try.prog 38 #[] wx fun e w' => ∃ r, e = .returned (.pointer (some ⟨r, 0, none⟩)) ∧ Hid (W1.heap.size ≤ t ∧ W1.heap.size ≤ r ∧ Keeps (fun _ => False) W1 w' ∧ TreeAt w' t (fun _ => 0) ∧ RefAt w' r (fun _ => 0)) ∧ w'.cell? ⟨w.heap.size, 0, none⟩ = some (.int .i64 7) ∧ w'.cell? ⟨w.heap.size, 3, none⟩ = some (.int .i64 v) ∧ w'.cell? ⟨w.heap.size, 4, none⟩ = some (.slice p l.length c) := fun wx t ⟨h1, hk, hT⟩ =>
    (ref_new wx).mono fun e w' ⟨he, hw⟩ => by
      have hk2 : Keeps (fun _ => False) wx w' := by rw [hw]; exact Keeps.new wx _
      have hb := HBX.out w' (hk.trans hk2)
      exact ⟨_, he, ⟨h1, hk.size, hk.trans hk2, hT.keep hk2, by rw [hw]; exact (MapKept.heap_alloc wx _).1⟩, hb.1, hb.2.2.1, hb.2.2.2⟩
  have HPL := Hid.mk' h
  have hPut : ∀ W t r f, W1.heap.size ≤ t → W1.heap.size ≤ r → Keeps (fun _ => False) W1 W → TreeAt W t f → RefAt W r f → _ := fun W t r f h1 h2 hk hT hR => HPL.out.put hd (HK1.out.trans hk) hT hR (Nat.le_trans HK1.out.size h1) (Nat.le_trans HK1.out.size h2)
  have HPUT := Hid.mk' hPut
  clear hPut h
  have hdv3 : (dv : Int) < 3 := by omega
  have hdv0 : (0 : Int) ≤ dv := by omega
  have HB := Hid.mk' hB
  have hCp : ∀ wx, Keeps (fun _ => False) W1 wx → Calls Try.prog 18 #[.pointer (some ⟨ts dv, 0, none⟩)] wx fun e w' => ∃ c', e = .returned (.pointer (some ⟨c', 0, none⟩)) ∧ Hid (W1.heap.size ≤ c' ∧ Keeps (fun _ => False) W1 w' ∧ TreeAt w' c' (fs dv)) := fun wx hk =>
    (copy_any wx _ _ ((HB.out.tree dv hdv).keep (HK1.out.trans hk))).mono fun e w' ⟨c', he, hh⟩ => ⟨c', he, Nat.le_trans hk.size (Nat.le_of_eq hh.out.1.symm), hk.trans hh.out.2.1, hh.out.2.2⟩
  have hCr : ∀ wx, Keeps (fun _ => False) W1 wx → Calls Try.prog 48 #[.pointer (some ⟨rs dv, 0, none⟩)] wx fun e w' => ∃ c', e = .returned (.pointer (some ⟨c', 0, none⟩)) ∧ Hid (W1.heap.size ≤ c' ∧ Keeps (fun _ => False) wx w' ∧ RefAt w' c' (fs dv)) := fun wx hk =>
    (ref_copy wx _ _ ((HK1.out.trans hk).at (HB.out.ref dv hdv) id)).mono fun e w' ⟨c', he, hh⟩ => ⟨c', he, Nat.le_trans hk.size (Nat.le_of_eq hh.out.1.symm), hh.out.2.1, hh.out.2.2⟩
  have HCELL : Hid (∀ wx, Keeps (fun _ => False) W1 wx → wx.cell? ⟨b, dv, none⟩ = some (.pointer (some ⟨ts dv, 0, none⟩)) ∧ wx.cell? ⟨b, 3 + dv, none⟩ = some (.pointer (some ⟨rs dv, 0, none⟩))) := fun wx hk => by
    have hh := b_cell ((HK1.out.trans hk).at HB.out.blk id) dv hdv
    rw [HB.out.ps_eq dv hdv, HB.out.qs_eq dv hdv] at hh
    exact hh
  clear hB hk0 hb0 hn0
  go_enter Try.func40, Try.ntmps40
  go_wp2_with (first
    | (go_at_call 38; refine (hNR _ _ H2.out).mono ?_; rintro e w3 ⟨r, rfl, H3, x0, x3, x4⟩
       obtain ⟨bb0, bb1⟩ := HCELL.out w3 H3.out.2.2.1)
    | (go_at_call 24; refine (hN _ (Keeps.refl _ _)).mono ?_; rintro e w2 ⟨t, rfl, H2, y0⟩)
    | (go_at_call 41; refine (hpl _).mono ?_; rintro e w2 ⟨rfl, hw⟩; subst hw))
  go_region_held3 (fun wx => wx.cell? ⟨w.heap.size, 3, none⟩ = some (.int .i64 v) ∧ wx.cell? ⟨b, dv, none⟩ = some (.pointer (some ⟨ts dv, 0, none⟩)))
    (first | go_keep)
    (first
      | (go_at_call 41; refine (hplv _).mono ?_; rintro e w' ⟨rfl, hw⟩; subst w')
      | (go_at_call 18; refine (hCp _ (by exact H3.out.2.2.1.trans (Keeps.drewN _ _ _))).mono ?_; rintro e w5 ⟨c5, rfl, H5⟩
         obtain ⟨_, _, e3, _⟩ := HBX.out w5 H5.out.2.1
         obtain ⟨f0, f1⟩ := HCELL.out w5 H5.out.2.1))
  all_goals
    go_wp2
    go_region_held3 (fun wx => wx.cell? ⟨w.heap.size, 3, none⟩ = some (.int .i64 v) ∧ wx.cell? ⟨b, 3 + dv, none⟩ = some (.pointer (some ⟨rs dv, 0, none⟩)))
      (first | go_keep)
      (first
        | (go_at_call 41; refine (hplv _).mono ?_; rintro e w' ⟨rfl, hw⟩; subst w')
        | (go_at_call 48; refine (hCr _ (by exact H5.out.2.1.trans (Keeps.drewN _ _ _))).mono ?_; rintro e w6 ⟨c6, rfl, H6⟩
           have hk56 := (Keeps.drewN (fun _ => False) w5 _).trans H6.out.2.1
           obtain ⟨_, _, e6, _⟩ := HBX.out w6 (H5.out.2.1.trans hk56)
           obtain ⟨g0, g1⟩ := HCELL.out w6 (H5.out.2.1.trans hk56)
           have HK56 := Hid.mk' hk56
           clear hk56))
    all_goals
      obtain ⟨⟨u0, z0⟩, z1, ⟨u1, z2⟩, z3, HF⟩ := HPUT.out w6 c5 c6 _ H5.out.1 H6.out.1 (H5.out.2.1.trans HK56.out) (H5.out.2.2.keep HK56.out) H6.out.2.2
      go_wp2
      go_ret
      exact ⟨rfl, HF.out⟩

end Go.Proofs.Ytndojlacdggfcab
