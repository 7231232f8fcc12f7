import Derived.Test.YtndojlacdggfcabK1
namespace Go.Proofs.Ytndojlacdggfcab
open Go.RowKit

theorem rn_of_row {W : World} {a : Option Addr} {cap : Nat} {l : List Rn} (h : Row W (.slice a l.length cap) l.length (rflat l)) : RnIn W a l := by
  intro h0
  obtain ⟨a', cap', e, hc⟩ := h
  cases e
  obtain ⟨b, o, rfl, hb, hc⟩ := hc h0
  refine ⟨b, o, rfl, hb, fun i hi => ?_⟩
  obtain ⟨g0, g1, g2⟩ := rflat_get l i hi
  exact ⟨hc _ _ g0, by have := hc _ _ g1; rwa [← Nat.add_assoc] at this, by have := hc _ _ g2; rwa [← Nat.add_assoc] at this⟩
theorem rflat_one (l : List Rn) : ∀ u ∈ rflat l, u.oneCell' = true := by
  intro u hu
  obtain ⟨r, _, hr⟩ := List.mem_flatMap.1 hu
  simp only [rcells, List.mem_cons, List.not_mem_nil, or_false] at hr
  rcases hr with rfl | rfl | rfl <;> rfl

set_option maxRecDepth 100000 in
set_option maxHeartbeats 2000000 in
theorem makes_load (w0 w : World) (b : Nat) (D off v : Int) (p : Option Addr) (c : Nat) (l : List Rn) (h : PL w0 w b) (hp : RnIn w0 p l) (hl : l.length * 24 ≤ 140737488355328) (hbd : ∀ r ∈ l, bdR r) :
    Calls Try.prog 40 #[.pointer (some ⟨b, 0, none⟩), .agg #[.int .i64 6, .int .i64 D, .int .i64 off, .int .i64 v, .slice p l.length c]] w fun e w' => e = .returned (.bool true) ∧ PL w0 w' b := by
  have hd := plc_lt D (show 1 ≤ 3 by omega)
  have hpl := place_any D
  generalize plc D 3 = d at *
  have HK1 := Hid.mk' (Keeps.new w (.cells #[.int .i64 6, .int .i64 D, .int .i64 off, .int .i64 v, .slice p l.length c] 68))
  have hbx := (MapKept.heap_alloc w (.cells #[.int .i64 6, .int .i64 D, .int .i64 off, .int .i64 v, .slice p l.length c] 68)).1
  obtain ⟨W1, hW1⟩ : ∃ W1, w.alloc (.cells #[.int .i64 6, .int .i64 D, .int .i64 off, .int .i64 v, .slice p l.length c] 68) = W1 := ⟨_, rfl⟩
  rw [hW1] at HK1 hbx
  have HBX : Hid (∀ W, Keeps (fun _ => False) W1 W → W.cell? ⟨w.heap.size, 0, none⟩ = some (.int .i64 6) ∧ W.cell? ⟨w.heap.size, 1, none⟩ = some (.int .i64 D) ∧ W.cell? ⟨w.heap.size, 3, none⟩ = some (.int .i64 v) ∧ W.cell? ⟨w.heap.size, 4, none⟩ = some (.slice p l.length c)) := fun W hk => by
    have := hk.at hbx id
    simp [World.cell?, this]
  clear hbx
  obtain ⟨o0, o1, o3, o4⟩ := HBX.out W1 (Keeps.refl _ _)
  have hd3 : (d : Int) < 3 := by omega
  have hd0 : (0 : Int) ≤ d := by omega
  have hN : ∀ wx, Keeps (fun _ => False) W1 wx → Calls Try.prog 24 #[] wx fun e w' => ∃ t, e = .returned (.pointer (some ⟨t, 0, none⟩)) ∧ Hid (W1.heap.size ≤ t ∧ Keeps (fun _ => False) W1 w' ∧ TreeAt w' t (fun _ => 0)) ∧ w'.cell? ⟨w.heap.size, 0, none⟩ = some (.int .i64 6) := fun wx hk =>
    (new_any wx).mono fun e w' ⟨he, hw⟩ => ⟨_, he, ⟨hk.size, by rw [hw]; exact hk.trans (Keeps.new wx _), by rw [hw]; exact new_tree wx⟩, (HBX.out w' (by rw [hw]; exact hk.trans (Keeps.new wx _))).1⟩
  have hNR : ∀ wx t, (W1.heap.size ≤ t ∧ Keeps (fun _ => False) W1 wx ∧ TreeAt wx t (fun _ => 0)) → Calls Try.prog 38 #[] wx fun e w' => ∃ r, e = .returned (.pointer (some ⟨r, 0, none⟩)) ∧ Hid (W1.heap.size ≤ t ∧ W1.heap.size ≤ r ∧ Keeps (fun _ => False) W1 w' ∧ TreeAt w' t (fun _ => 0) ∧ RefAt w' r (fun _ => 0)) ∧ w'.cell? ⟨w.heap.size, 0, none⟩ = some (.int .i64 6) ∧ w'.cell? ⟨w.heap.size, 3, none⟩ = some (.int .i64 v) ∧ w'.cell? ⟨w.heap.size, 4, none⟩ = some (.slice p l.length c) := fun wx t ⟨h1, hk, hT⟩ =>
    (ref_new wx).mono fun e w' ⟨he, hw⟩ => by
      have hk2 : Keeps (fun _ => False) wx w' := by rw [hw]; exact Keeps.new wx _
      have hb := HBX.out w' (hk.trans hk2)
      exact ⟨_, he, ⟨h1, hk.size, hk.trans hk2, hT.keep hk2, by rw [hw]; exact (MapKept.heap_alloc wx _).1⟩, hb.1, hb.2.2.1, hb.2.2.2⟩
  have HPL := Hid.mk' h
  have hPut : ∀ W t r f, W1.heap.size ≤ t → W1.heap.size ≤ r → Keeps (fun _ => False) W1 W → TreeAt W t f → RefAt W r f → _ := fun W t r f h1 h2 hk hT hR => HPL.out.put hd (HK1.out.trans hk) hT hR (Nat.le_trans HK1.out.size h1) (Nat.le_trans HK1.out.size h2)
  have HPUT := Hid.mk' hPut
  clear hPut h
  obtain ⟨i0, hi, hz0, hz1, hz2⟩ := info_parts info38
  have hml : l.length ≤ 9223372036854775807 := by omega
  have hmx : l.length ≤ maxLen := by simp [maxLen]; omega
  have HP := Hid.mk' hp
  have HK0 : Hid (Keeps (fun _ => False) w0 w) := by obtain ⟨_, _, _, _, _, _, hk, _⟩ := HPL.out; exact hk
  have HRN : Hid (∀ W, Keeps (fun _ => False) W1 W → RnIn W p l) := fun W hk => HP.out.grown ((HK0.out.trans HK1.out).trans hk)
  have hsrc : ∀ W, Keeps (fun _ => False) W1 W → 0 < l.length → ∃ ad, p = some ad ∧ ∀ (j : Nat) (u : Value), (rflat l)[j]? = some u → W.cell? (ad.add j) = some u := fun W hk h0 => by
    obtain ⟨a', cap', e, hc⟩ := Row.of_runs (cap := c) (HRN.out W hk)
    cases e
    obtain ⟨bb, o, rfl, _, hc⟩ := hc h0
    refine ⟨_, rfl, fun j u hu => ?_⟩
    have hadd : (⟨bb, o, none⟩ : Addr).add j = ⟨bb, o + j, none⟩ := by unfold Addr.add; split <;> simp_all
    rw [hadd]; exact hc j u hu
  have HSRC := Hid.mk' hsrc
  have hrf := rflat_len l
  have hr1 := rflat_one l
  have HBD := Hid.mk' hbd
  clear hp hsrc hbd
  -- THE LIST, COPIED
  have hLd : ∀ W a cap, Keeps (fun _ => False) W1 W → Row W (.slice a l.length cap) l.length (rflat l) → Calls Try.prog 12 #[.slice a l.length cap] W (LoadTold W l TreeAt) := fun W a cap hk hr => load_any W a l cap (rn_of_row hr) hmx HBD.out
  have hLr : ∀ W, Keeps (fun _ => False) W1 W → Calls Try.prog 47 #[.slice p l.length c] W (LoadTold W l RefAt) := fun W hk => ref_load W p l c (HRN.out W hk) hmx HBD.out
  have hSm : ∀ W a cap, Keeps (fun _ => False) W1 W → Row W (.slice a l.length cap) l.length (rflat l) → Calls Try.prog 14 #[.slice a l.length cap, .slice p l.length c] W fun e w' => e = .returned (.bool true) ∧ Hid (Keeps (fun _ => False) W w') := fun W a cap hk hr =>
    (sameRuns_any W _ _ l hr (Row.of_runs (HRN.out W hk)) hml).mono fun e w' ⟨h1, m, h2⟩ => ⟨h1, by rw [h2]; exact Keeps.drewN _ _ _⟩
  cases hok : l.all okRun with
  | true =>
    have hLd' : ∀ W a cap, Keeps (fun _ => False) W1 W → Row W (.slice a l.length cap) l.length (rflat l) → Calls Try.prog 12 #[.slice a l.length cap] W fun e w' => ∃ t', e = .returned (.tuple #[.pointer (some ⟨t', 0, none⟩), .int .i64 0]) ∧ Hid (W1.heap.size ≤ t' ∧ Keeps (fun _ => False) W1 w' ∧ TreeAt w' t' (loadTo l) ∧ Row w' (.slice a l.length cap) l.length (rflat l)) ∧ w'.cell? ⟨w.heap.size, 4, none⟩ = some (.slice p l.length c) := fun W a cap hk hr =>
      (hLd W a cap hk hr).mono fun e w' hh => by
        rcases hh with ⟨_, t', he, h3⟩ | ⟨h, _⟩
        · exact ⟨t', he, ⟨Nat.le_trans hk.size (Nat.le_of_eq h3.out.1.symm), hk.trans h3.out.2.1, h3.out.2.2, hr.keep h3.out.2.1⟩, (HBX.out w' (hk.trans h3.out.2.1)).2.2.2⟩
        · rw [hok] at h; cases h
    have hLr' : ∀ W, Keeps (fun _ => False) W1 W → Calls Try.prog 47 #[.slice p l.length c] W fun e w' => ∃ t', e = .returned (.tuple #[.pointer (some ⟨t', 0, none⟩), .int .i64 0]) ∧ Hid (W1.heap.size ≤ t' ∧ Keeps (fun _ => False) W w' ∧ RefAt w' t' (loadTo l)) ∧ w'.cell? ⟨w.heap.size, 4, none⟩ = some (.slice p l.length c) := fun W hk =>
      (hLr W hk).mono fun e w' hh => by
        rcases hh with ⟨_, t', he, h3⟩ | ⟨h, _⟩
        · exact ⟨t', he, ⟨Nat.le_trans hk.size (Nat.le_of_eq h3.out.1.symm), h3.out.2.1, h3.out.2.2⟩, (HBX.out w' (hk.trans h3.out.2.1)).2.2.2⟩
        · rw [hok] at h; cases h
    clear hLd hLr hok
    go_enter Try.func40, Try.ntmps40
    go_wp2_with (first
      | (go_at_call 14; refine (hSm _ _ _ (H5.out.2.1.trans H6.out.2.1) (H5.out.2.2.2.keep H6.out.2.1)).mono ?_; rintro e w7 ⟨rfl, H7⟩
         obtain ⟨⟨u0, z0⟩, z1, ⟨u1, z2⟩, z3, HF⟩ := HPUT.out w7 t5 t6 _ H5.out.1 H6.out.1 ((H5.out.2.1.trans H6.out.2.1).trans H7.out) (H5.out.2.2.1.keep (H6.out.2.1.trans H7.out)) (H7.out.at H6.out.2.2 id))
      | (go_at_call 47; refine (hLr' _ H5.out.2.1).mono ?_; rintro e w6 ⟨t6, rfl, H6, q4⟩)
      | (go_at_call 12; refine (hLd' _ _ _ HA.out.1 HA.out.2).mono ?_; rintro e w5 ⟨t5, rfl, H5, p4⟩)
      | (at_builtin; refine wpList_append_any _ rfl _ _ 27 rfl w3.heap.size 38 i0 (.agg #[.int .i64 0, .int .i64 0, .int .i64 0]) 3 24 Try.underlying27 hi hz0 hz1 hz2 rfl (by decide) (.slice none 0 0) 0 [] rfl (World.ownsRow_nil _ _ _ _) p l.length c (rflat l) rfl hrf (HSRC.out w3 H3.out.2.2.1) hr1 (by omega) (by omega) (Nat.le_refl _) ?_; intro v4 w4 hown hgrow
         obtain ⟨a4, cap4, rfl⟩ := ownsRow_slice hown
         have hk34 : Keeps (fun _ => False) w3 w4 := Keeps.of hgrow (by intro k hk; cases hk)
         have HA := Hid.mk' (And.intro (H3.out.2.2.1.trans hk34) (show Row w4 _ l.length (rflat l) from by have := Row.of_own hown; simpa using this))
         have r4 := (HBX.out w4 HA.out.1).2.2.2
         rw [Nat.zero_add] at *
         clear hown hgrow hk34)
      | (go_at_call 38; refine (hNR _ _ H2.out).mono ?_; rintro e w3 ⟨r, rfl, H3, x0, x3, x4⟩)
      | (go_at_call 24; refine (hN _ (Keeps.refl _ _)).mono ?_; rintro e w2 ⟨t, rfl, H2, y0⟩)
      | (go_at_call 41; refine (hpl _).mono ?_; rintro e w2 ⟨rfl, hw⟩; subst hw))
    go_ret
    exact ⟨rfl, HF.out⟩
  | false =>
    have hLd' : ∀ W a cap, Keeps (fun _ => False) W1 W → Row W (.slice a l.length cap) l.length (rflat l) → Calls Try.prog 12 #[.slice a l.length cap] W fun e w' => e = .returned (.tuple #[.pointer none, .int .i64 70]) ∧ Hid (Keeps (fun _ => False) W1 w' ∧ Row w' (.slice a l.length cap) l.length (rflat l)) ∧ w'.cell? ⟨w.heap.size, 4, none⟩ = some (.slice p l.length c) := fun W a cap hk hr =>
      (hLd W a cap hk hr).mono fun e w' hh => by
        rcases hh with ⟨h, _⟩ | ⟨_, he, h3⟩
        · rw [hok] at h; cases h
        · exact ⟨he, ⟨hk.trans h3.out, hr.keep h3.out⟩, (HBX.out w' (hk.trans h3.out)).2.2.2⟩
    have hLr' : ∀ W, Keeps (fun _ => False) W1 W → Calls Try.prog 47 #[.slice p l.length c] W fun e w' => e = .returned (.tuple #[.pointer none, .int .i64 70]) ∧ Hid (Keeps (fun _ => False) W w') ∧ w'.cell? ⟨w.heap.size, 4, none⟩ = some (.slice p l.length c) := fun W hk =>
      (hLr W hk).mono fun e w' hh => by
        rcases hh with ⟨h, _⟩ | ⟨_, he, h3⟩
        · rw [hok] at h; cases h
        · exact ⟨he, h3, (HBX.out w' (hk.trans h3.out)).2.2.2⟩
    clear hLd hLr hok
    go_enter Try.func40, Try.ntmps40
    go_wp2_with (first
      | (go_at_call 14; refine (hSm _ _ _ (H5.out.1.trans H6.out) (H5.out.2.keep H6.out)).mono ?_; rintro e w7 ⟨rfl, H7⟩)
      | (go_at_call 47; refine (hLr' _ H5.out.1).mono ?_; rintro e w6 ⟨rfl, H6, q4⟩)
      | (go_at_call 12; refine (hLd' _ _ _ HA.out.1 HA.out.2).mono ?_; rintro e w5 ⟨rfl, H5, p4⟩)
      | (at_builtin; refine wpList_append_any _ rfl _ _ 27 rfl w3.heap.size 38 i0 (.agg #[.int .i64 0, .int .i64 0, .int .i64 0]) 3 24 Try.underlying27 hi hz0 hz1 hz2 rfl (by decide) (.slice none 0 0) 0 [] rfl (World.ownsRow_nil _ _ _ _) p l.length c (rflat l) rfl hrf (HSRC.out w3 H3.out.2.2.1) hr1 (by omega) (by omega) (Nat.le_refl _) ?_; intro v4 w4 hown hgrow
         obtain ⟨a4, cap4, rfl⟩ := ownsRow_slice hown
         have hk34 : Keeps (fun _ => False) w3 w4 := Keeps.of hgrow (by intro k hk; cases hk)
         have HA := Hid.mk' (And.intro (H3.out.2.2.1.trans hk34) (show Row w4 _ l.length (rflat l) from by have := Row.of_own hown; simpa using this))
         have r4 := (HBX.out w4 HA.out.1).2.2.2
         rw [Nat.zero_add] at *
         clear hown hgrow hk34)
      | (go_at_call 38; refine (hNR _ _ H2.out).mono ?_; rintro e w3 ⟨r, rfl, H3, x0, x3, x4⟩)
      | (go_at_call 24; refine (hN _ (Keeps.refl _ _)).mono ?_; rintro e w2 ⟨t, rfl, H2, y0⟩)
      | (go_at_call 41; refine (hpl _).mono ?_; rintro e w2 ⟨rfl, hw⟩; subst hw))
    go_ret
    have hkk := HK1.out.trans ((H5.out.1.trans H6.out).trans H7.out)
    obtain ⟨ts, rs, fs, ps, qs, hB, hk0, hb0, hn0⟩ := HPL.out
    exact ⟨rfl, ts, rs, fs, ps, qs, hB.keep hkk, hk0.trans hkk, hb0, hn0⟩

end Go.Proofs.Ytndojlacdggfcab
