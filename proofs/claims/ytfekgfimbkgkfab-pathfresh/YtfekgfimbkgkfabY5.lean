import Derived.Test.YtfekgfimbkgkfabY3
namespace Go.Proofs.Ytfekgfimbkgkfab
open Go.RowKit Go.Maps

set_option maxHeartbeats 4000000 in
set_option maxRecDepth 100000 in
theorem rparent_any (w : World) (ve : Value) (l : List Ed) (he : Row w ve l.length (ecells l)) (hl : l.length ≤ 3518437208780) (v : Value) (p : List ByteArray) (sl : Bool) (h : Row w v p.length (strs p)) (hn : p.length < 8796093022000) :
    Calls Try.prog 48 #[ve, .agg #[v, .bool sl]] w fun e w' => e = .returned (.tuple #[.int .i64 (prn (tabF l) p).1, .string (prn (tabF l) p).2.1, .int .i64 (prn (tabF l) p).2.2]) ∧ Keeps (fun _ => False) w w' := by
  have hA : Keeps (fun _ => False) w (w.alloc (.cells #[v, .bool sl] 25)) := (Keeps.refl _ w).alloc _
  have hB := heap_last w (.cells #[v, .bool sl] 25)
  obtain ⟨ea, ecp, rfl, _⟩ := id he
  obtain ⟨pa, pcp, rfl, hpc, _⟩ := id h
  obtain ⟨c0, c1, _⟩ := cells2 hB
  have HA := Hid.mk' (And.intro hA hB)
  rcases Nat.eq_zero_or_pos p.length with h0 | h0
  · have e0 := List.length_eq_zero_iff.1 h0
    subst e0
    have hP : prn (tabF l) [] = (0, ⟨#[]⟩, 145) := rfl
    rw [hP]
    simp only [List.length_nil] at *
    clear hP
    go_enter Try.func48, Try.ntmps48
    go_wp2
    refine bodyPost_ret (v := .tuple #[.int .i64 0, .string ⟨#[]⟩, .int .i64 145]) (by simp [results, Try.results48, go_sem]) rfl ?_
    exact ⟨rfl, HA.out.1⟩
  · have hm : ((p.length : Int) - 1) = ((p.length - 1 : Nat) : Int) := by omega
    have hlt : p.length - 1 < p.length := by omega
    have hlt' : ((p.length - 1 : Nat) : Int) < (p.length : Int) := by omega
    have h0' : ¬ (p.length : Int) = 0 := by omega
    have h0'' : ((p.length : Int) == 0) = false := beq_eq_false_iff_ne.2 h0'
    have hcp : ((p.length - 1 : Nat) : Int) ≤ (pcp : Int) := by omega
    obtain ⟨b, o, cap', e, hb, hc⟩ := h.pos h0
    cases e
    have c2 := hA.cell (hc (p.length - 1) _ (strs_get hlt)) id
    have HC := Hid.mk' (hc (p.length - 1) _ (strs_get hlt))
    have eL : lastP p = p.getD (p.length - 1) bz := by
      unfold lastP
      rw [List.getLastD_eq_getLast?, List.getLast?_eq_getElem?, List.getD_eq_getElem?_getD]; rfl
    have eD : p.dropLast = p.take (p.length - 1) := List.dropLast_eq_take
    have hl2 : (p.take (p.length - 1)).length = p.length - 1 := by rw [List.length_take]; omega
    have hT := (h.keep hA).take (k := p.length - 1) (by omega)
    have h52 := rwalk_any (w.alloc (.cells #[.slice (some ⟨b, o, none⟩) p.length pcp, .bool sl] 25)) (.slice ea l.length ecp) l (he.keep hA) hl (.slice (some ⟨b, o, none⟩) (p.length - 1) pcp) (p.take (p.length - 1)) hT (by omega)
    have hNm : named p = (!isDot (p.getD (p.length - 1) bz) && !isUp (p.getD (p.length - 1) bz)) := by
      have e2 : p.isEmpty = false := by cases p with
        | nil => exact absurd h0 (by simp)
        | cons _ _ => rfl
      unfold named
      rw [eL, e2]; rfl
    have HL : Hid (∀ a r, lead (tabF l) (p.take (p.length - 1)) = .ok a r → r.length ≤ p.length) := fun a r h => by have := lead_len h; omega
    have HLb : Hid (∀ er, lead (tabF l) (p.take (p.length - 1)) = .bad er → er = 143 ∨ er = 144) := fun er h => lead_bad h
    unfold prn
    rw [hNm, eL, eD]
    generalize lead (tabF l) (p.take (p.length - 1)) = y at h52 HL HLb
    generalize p.getD (p.length - 1) bz = s at c2 HC
    obtain ⟨m, hmm⟩ : ∃ m, m = p.length - 1 := ⟨_, rfl⟩
    rw [← hmm] at hm hlt' hcp h52 c2 HC
    clear hc hA hB he h hT eL eD hl2 hNm hmm hlt
    rcases Bool.eq_false_or_eq_true (isDot s) with hD | hD
    · have hD' : (s.toList == [46]) = true := hD
      rw [hD]
      clear hD
      go_enter Try.func48, Try.ntmps48
      go_wp2
      refine bodyPost_ret (v := .tuple #[.int .i64 0, .string ⟨#[]⟩, .int .i64 145]) (by simp [results, Try.results48, go_sem]) rfl ?_
      exact ⟨rfl, HA.out.1⟩
    · have hD' : (s.toList == [46]) = false := hD
      rcases Bool.eq_false_or_eq_true (isUp s) with hU | hU
      · have hU' : (s.toList == [46, 46]) = true := hU
        rw [hD, hU]
        clear hD hU
        go_enter Try.func48, Try.ntmps48
        go_wp2
        refine bodyPost_ret (v := .tuple #[.int .i64 0, .string ⟨#[]⟩, .int .i64 145]) (by simp [results, Try.results48, go_sem]) rfl ?_
        exact ⟨rfl, HA.out.1⟩
      · have hU' : (s.toList == [46, 46]) = false := hU
        rw [hD, hU]
        clear hD hU
        cases y with
        | bad er =>
          unfold RwP at h52
          dsimp only at h52
          have HE : Hid (er ≠ 0) := by { show er ≠ 0; rcases HLb.out er rfl with h | h <;> (rw [h]; decide) }
          have hE1 : (er != 0) = true := bne_iff_ne.2 HE.out
          have hE2 : ¬ er = 0 := HE.out
          go_enter Try.func48, Try.ntmps48
          go_wp2_with (first
            | (go_at_call 52; refine h52.mono ?_; clear h52; rintro e w1 ⟨HK1, rfl⟩))
          refine bodyPost_ret (v := .tuple #[.int .i64 0, .string ⟨#[]⟩, .int .i64 er]) (by simp [results, Try.results48, go_sem]) rfl ?_
          exact ⟨rfl, HA.out.1.trans HK1.out⟩
        | ok a r =>
          have hrl := HL.out a r rfl
          obtain ⟨an, ab⟩ := a
          unfold RwP at h52
          dsimp only at h52
          have hr1 : (r.length : Int) < (r.length : Int) + 1 := by omega
          cases ab with
          | false =>
            go_enter Try.func48, Try.ntmps48
            go_wp2_with (first
              | (go_at_call 52; refine h52.mono ?_; clear h52; rintro e w1 ⟨HK1, x, va, vb, rfl, hW⟩
                 have h53 := rlast_any w1 _ x va vb (an, false) r hW (by omega)
                 dsimp only at h53
                 have HW := Hid.mk' hW
                 clear hW)
              | (go_at_call 53; refine h53.mono ?_; clear h53; rintro e w2 ⟨rfl, hk2⟩
                 have hW2 := HW.out.keep hk2
                 have HK2 := Hid.mk' ((HA.out.1.trans HK1.out).trans hk2)
                 obtain ⟨x0, x1, _⟩ := cells2 ((HK1.out.trans hk2).at HA.out.2 id)
                 obtain ⟨y0, y1, _⟩ := cells2 hW2.st
                 have c3 := ((HA.out.1.trans HK1.out).trans hk2).cell HC.out id
                 obtain ⟨g, gc, rfl, _, hgc, g0⟩ := own_last hW2.ri (ints_last (an, false) r)
                 dsimp only at g0
                 clear hk2 hW2))
            refine bodyPost_ret (v := .tuple #[.int .i64 0, .string ⟨#[]⟩, .int .i64 144]) (by simp [results, Try.results48, go_sem]) rfl ?_
            exact ⟨rfl, HK2.out⟩
          | true =>
            go_enter Try.func48, Try.ntmps48
            go_wp2_with (first
              | (go_at_call 52; refine h52.mono ?_; clear h52; rintro e w1 ⟨HK1, x, va, vb, rfl, hW⟩
                 have h53 := rlast_any w1 _ x va vb (an, true) r hW (by omega)
                 dsimp only at h53
                 have HW := Hid.mk' hW
                 clear hW)
              | (go_at_call 53; refine h53.mono ?_; clear h53; rintro e w2 ⟨rfl, hk2⟩
                 have hW2 := HW.out.keep hk2
                 have HK2 := Hid.mk' ((HA.out.1.trans HK1.out).trans hk2)
                 obtain ⟨x0, x1, _⟩ := cells2 ((HK1.out.trans hk2).at HA.out.2 id)
                 obtain ⟨y0, y1, _⟩ := cells2 hW2.st
                 have c3 := ((HA.out.1.trans HK1.out).trans hk2).cell HC.out id
                 obtain ⟨g, gc, rfl, _, hgc, g0⟩ := own_last hW2.ri (ints_last (an, true) r)
                 dsimp only at g0
                 clear hk2 hW2))
            go_quiet (fail)
            go_wp2
            refine bodyPost_ret (v := .tuple #[.int .i64 an, .string s, .int .i64 0]) (by simp [results, Try.results48, go_sem]) rfl ?_
            exact ⟨rfl, HK2.out.trans (Keeps.drewN _ _ _)⟩
end Go.Proofs.Ytfekgfimbkgkfab
