import Derived.Test.YtfekgfimbkgkfabY3
namespace Go.Proofs.Ytfekgfimbkgkfab
open Go.RowKit Go.Maps

set_option maxHeartbeats 4000000 in
set_option maxRecDepth 100000 in
theorem rresolve_any (w : World) (ve : Value) (l : List Ed) (he : Row w ve l.length (ecells l)) (hl : l.length ≤ 3518437208780) (v : Value) (p : List ByteArray) (sl : Bool) (h : Row w v p.length (strs p)) (hn : p.length < 8796093022000) :
    Calls Try.prog 47 #[ve, .agg #[v, .bool sl]] w fun e w' => e = .returned (.tuple #[.int .i64 (rsv (tabF l) p sl).1, .bool (rsv (tabF l) p sl).2.1, .int .i64 (rsv (tabF l) p sl).2.2]) ∧ Keeps (fun _ => False) w w' := by
  have hA : Keeps (fun _ => False) w (w.alloc (.cells #[v, .bool sl] 25)) := (Keeps.refl _ w).alloc _
  have hB := heap_last w (.cells #[v, .bool sl] 25)
  have h52 := rwalk_any (w.alloc (.cells #[v, .bool sl] 25)) ve l (he.keep hA) hl v p (h.keep hA) hn
  obtain ⟨ea, ecp, rfl, _⟩ := he
  obtain ⟨pa, pcp, rfl, _⟩ := h
  obtain ⟨c0, c1, _⟩ := cells2 hB
  have HA := Hid.mk' (And.intro hA hB)
  clear hA hB
  have HL : Hid (∀ a r, lead (tabF l) p = .ok a r → r.length ≤ p.length) := fun a r h => lead_len h
  have HLb : Hid (∀ er, lead (tabF l) p = .bad er → er = 143 ∨ er = 144) := fun er h => lead_bad h
  unfold rsv
  generalize lead (tabF l) p = y at h52 HL HLb
  cases y with
  | bad er =>
    dsimp only
    unfold RwP at h52
    dsimp only at h52
    have HE : Hid (er ≠ 0) := by { show er ≠ 0; rcases HLb.out er rfl with h | h <;> (rw [h]; decide) }
    have hE1 : (er != 0) = true := bne_iff_ne.2 HE.out
    have hE2 : ¬ er = 0 := HE.out
    go_enter Try.func47, Try.ntmps47
    go_wp2_with (first
      | (go_at_call 52; refine h52.mono ?_; clear h52; rintro e w1 ⟨HK1, rfl⟩))
    refine bodyPost_ret (v := .tuple #[.int .i64 0, .bool false, .int .i64 er]) (by simp [results, Try.results47, go_sem]) rfl ?_
    exact ⟨rfl, HA.out.1.trans HK1.out⟩
  | ok a r =>
    have hrl := HL.out a r rfl
    obtain ⟨an, ab⟩ := a
    dsimp only
    unfold RwP at h52
    dsimp only at h52
    have hr1 : (r.length : Int) < (r.length : Int) + 1 := by omega
    cases sl with
    | false =>
      cases ab with
      | false =>
        go_enter Try.func47, Try.ntmps47
        go_wp2_with (first
          | (go_at_call 52; refine h52.mono ?_; clear h52; rintro e w1 ⟨HK1, x, va, vb, rfl, hW⟩
             have h53 := rlast_any w1 _ x va vb (an, false) r hW (by omega)
             dsimp only at h53
             have HW := Hid.mk' hW
             obtain ⟨x0, x1, _⟩ := cells2 (HK1.out.at HA.out.2 id)
             clear hW)
          | (go_at_call 53; refine h53.mono ?_; clear h53; rintro e w2 ⟨rfl, hk2⟩
             have hW2 := HW.out.keep hk2
             have HK2 := Hid.mk' ((HA.out.1.trans HK1.out).trans hk2)
             obtain ⟨x0, x1, _⟩ := cells2 ((HK1.out.trans hk2).at HA.out.2 id)
             obtain ⟨y0, y1, _⟩ := cells2 hW2.st
             obtain ⟨g, gc, rfl, _, hgc, g0⟩ := own_last hW2.ri (ints_last (an, false) r)
             dsimp only at g0
             clear hk2 hW2))
        go_quiet (fail)
        go_wp2
        refine bodyPost_ret (v := .tuple #[.int .i64 an, .bool false, .int .i64 0]) (by simp [results, Try.results47, go_sem]) rfl ?_
        exact ⟨rfl, HK2.out.trans (Keeps.drewN _ _ _)⟩
      | true =>
        go_enter Try.func47, Try.ntmps47
        go_wp2_with (first
          | (go_at_call 52; refine h52.mono ?_; clear h52; rintro e w1 ⟨HK1, x, va, vb, rfl, hW⟩
             have h53 := rlast_any w1 _ x va vb (an, true) r hW (by omega)
             dsimp only at h53
             have HW := Hid.mk' hW
             obtain ⟨x0, x1, _⟩ := cells2 (HK1.out.at HA.out.2 id)
             clear hW)
          | (go_at_call 53; refine h53.mono ?_; clear h53; rintro e w2 ⟨rfl, hk2⟩
             have hW2 := HW.out.keep hk2
             have HK2 := Hid.mk' ((HA.out.1.trans HK1.out).trans hk2)
             obtain ⟨x0, x1, _⟩ := cells2 ((HK1.out.trans hk2).at HA.out.2 id)
             obtain ⟨y0, y1, _⟩ := cells2 hW2.st
             obtain ⟨g, gc, rfl, _, hgc, g0⟩ := own_last hW2.ri (ints_last (an, true) r)
             dsimp only at g0
             clear hk2 hW2))
        go_quiet (fail)
        go_wp2
        refine bodyPost_ret (v := .tuple #[.int .i64 an, .bool true, .int .i64 0]) (by simp [results, Try.results47, go_sem]) rfl ?_
        exact ⟨rfl, HK2.out.trans (Keeps.drewN _ _ _)⟩
    | true =>
      cases ab with
      | false =>
        go_enter Try.func47, Try.ntmps47
        go_wp2_with (first
          | (go_at_call 52; refine h52.mono ?_; clear h52; rintro e w1 ⟨HK1, x, va, vb, rfl, hW⟩
             have h53 := rlast_any w1 _ x va vb (an, false) r hW (by omega)
             dsimp only at h53
             have HW := Hid.mk' hW
             obtain ⟨x0, x1, _⟩ := cells2 (HK1.out.at HA.out.2 id)
             clear hW)
          | (go_at_call 53; refine h53.mono ?_; clear h53; rintro e w2 ⟨rfl, hk2⟩
             have hW2 := HW.out.keep hk2
             have HK2 := Hid.mk' ((HA.out.1.trans HK1.out).trans hk2)
             obtain ⟨x0, x1, _⟩ := cells2 ((HK1.out.trans hk2).at HA.out.2 id)
             obtain ⟨y0, y1, _⟩ := cells2 hW2.st
             obtain ⟨g, gc, rfl, _, hgc, g0⟩ := own_last hW2.ri (ints_last (an, false) r)
             dsimp only at g0
             clear hk2 hW2))
        refine bodyPost_ret (v := .tuple #[.int .i64 0, .bool false, .int .i64 144]) (by simp [results, Try.results47, go_sem]) rfl ?_
        exact ⟨rfl, HK2.out⟩
      | true =>
        go_enter Try.func47, Try.ntmps47
        go_wp2_with (first
          | (go_at_call 52; refine h52.mono ?_; clear h52; rintro e w1 ⟨HK1, x, va, vb, rfl, hW⟩
             have h53 := rlast_any w1 _ x va vb (an, true) r hW (by omega)
             dsimp only at h53
             have HW := Hid.mk' hW
             obtain ⟨x0, x1, _⟩ := cells2 (HK1.out.at HA.out.2 id)
             clear hW)
          | (go_at_call 53; refine h53.mono ?_; clear h53; rintro e w2 ⟨rfl, hk2⟩
             have hW2 := HW.out.keep hk2
             have HK2 := Hid.mk' ((HA.out.1.trans HK1.out).trans hk2)
             obtain ⟨x0, x1, _⟩ := cells2 ((HK1.out.trans hk2).at HA.out.2 id)
             obtain ⟨y0, y1, _⟩ := cells2 hW2.st
             obtain ⟨g, gc, rfl, _, hgc, g0⟩ := own_last hW2.ri (ints_last (an, true) r)
             dsimp only at g0
             clear hk2 hW2))
        go_quiet (fail)
        go_wp2
        refine bodyPost_ret (v := .tuple #[.int .i64 an, .bool true, .int .i64 0]) (by simp [results, Try.results47, go_sem]) rfl ?_
        exact ⟨rfl, HK2.out.trans (Keeps.drewN _ _ _)⟩
end Go.Proofs.Ytfekgfimbkgkfab
