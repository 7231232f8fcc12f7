import Derived.Test.YtfekgfimbkgkfaaF2
namespace Go.Proofs.Ytfekgfimbkgkfaa
open Go.RowKit Go.Maps

set_option maxHeartbeats 4000000 in
set_option maxRecDepth 100000 in
theorem parents_walk (w : World) (v0 : Value) (l : List Ed) (h0 : Row w v0 l.length (ecells l)) (hl : l.length ≤ 3518437208780) (ho : ∀ e ∈ l, EdOk e) (vp : Value) (p : List ByteArray) (sl : Bool) (hp : Row w vp p.length (strs p)) (hk : PsOk p) :
    Calls Try.prog 6 #[v0, .agg #[vp, .bool sl]] w fun e w' => e = .returned (.bool true) ∧ Keeps (fun _ => False) w w' := by
  have h13 := start_any w v0 l h0 hl ho vp p sl hp
  have HF : Hid (wfF (tabF l)) := wfF_tab ho
  have HK : Hid (PsOk p) := hk
  have HC := Hid.mk' (parent_cases (tabF l) (wfF_tab ho) p sl)
  have HR : Hid (Row w vp p.length (strs p)) := hp
  generalize tabF l = F at h13 HF HC
  generalize l.length = n at h13
  have hpl := hk.1
  clear h0 hl ho hk
  by_cases hp0 : p = []
  · subst hp0
    obtain ⟨va, vcp, rfl, hcap, _⟩ := id hp
    simp only [List.length_nil] at *
    rcases HC.out with ⟨hN, hE⟩ | ⟨hN, _⟩ | ⟨hN, _⟩
    · go_enter Try.func6, Try.ntmps6
      go_wp2_with (first
        | (go_at_call 14; refine (TS.resolve2 H6a HF (.slice r6 q c6) (p.take q) false H6r HKq).mono ?_; rintro e w7 ⟨rfl, H7b⟩
           rw [hV0]
           have H7 := Hid.mk' H7b.out.1
           clear H7b
           have a0 := H7.out.pp.c0
           have a1 := H7.out.pp.c1)
        | (go_at_call 15; refine (TS.step H4 HK q (by have := HQ.out.1; omega)).mono ?_; rintro e w6 ⟨r6, c6, rfl, H6⟩
           have H6a := Hid.mk' H6.out.1
           have H6r := Hid.mk' H6.out.2.2.1
           clear H6)
        | (go_at_call 17; refine (TS.look H7 d _ hd HLs.out).mono ?_; rintro e w8 ⟨rfl, H8⟩
           have b0 := H8.out.pp.c0
           have b1 := H8.out.pp.c1)
        | (go_at_call 13; refine h13.mono ?_; clear h13; rintro e w1 ⟨rfl, H1⟩)
        | (go_at_call 9; refine (TS.first H1).mono ?_; rintro e w2 ⟨rfl, H2⟩
           have x0 := H2.out.pp.c0
           have x1 := H2.out.pp.c1)
        | (go_at_call 16; refine (TS.parent H2 HF HK).mono ?_; rintro e w3 ⟨rfl, H3⟩
           rw [hE]
           have y0 := H3.out.pp.c0
           have y1 := H3.out.pp.c1)
        | (go_at_call 14; refine (TS.resolve H3 HF HK).mono ?_; rintro e w4 ⟨rfl, H4⟩
           have z0 := H4.out.pp.c0
           have z1 := H4.out.pp.c1))
      go_ret
      exact ⟨rfl, H4.out.kp⟩
    · cases hN
    · cases hN
  · obtain ⟨q, hq⟩ : ∃ q, p.length = q + 1 := ⟨p.length - 1, by have := List.length_pos_iff.2 hp0; omega⟩
    obtain ⟨b, o, vcp, e, hb, hc⟩ := hp.pos (by omega)
    rw [hq] at e
    subst e
    have HCl : Hid (w.cell? ⟨b, o + q, none⟩ = some (.string (lastP p))) := by
      have := hc q _ (strs_get (by omega))
      rw [lastP_getD, hq]; exact this
    have hqb : q + 1 < 8796093022000 := by omega
    have hmax : max ((q : Int) + 1) 1 = (q : Int) + 1 := by omega
    have HQ : Hid (p.length = q + 1 ∧ p ≠ []) := ⟨hq, hp0⟩
    have HLs : Hid ((lastP p).size ≤ maxLen) := HK.out.last hp0
    have HKq : Hid (PsOk (p.take q)) := HK.out.take q
    have hNm : named p = (!isDot (lastP p) && !isUp (lastP p)) := by
      have e : p.isEmpty = false := by cases p with | nil => exact absurd rfl hp0 | cons _ _ => rfl
      unfold named; rw [e]; rfl
    rcases HC.out with ⟨hN, hE⟩ | ⟨hN, er, he, hE, hV⟩ | ⟨hN, d, hd, hE, hV0, hV⟩
    · have hDU : isDot (lastP p) = true ∨ (isDot (lastP p) = false ∧ isUp (lastP p) = true) := by
        rw [hNm] at hN
        cases h1 : isDot (lastP p) <;> cases h2 : isUp (lastP p) <;> simp_all
      clear hNm hN hp0 hc hq hp HC
      generalize lastP p = ls at *
      rcases hDU with hD | ⟨hD, hU⟩
      · have hD' : (ls.toList == [46]) = true := hD
        clear hD
        go_enter Try.func6, Try.ntmps6
        go_wp2_with (first
          | (go_at_call 14; refine (TS.resolve2 H6a HF (.slice r6 q c6) (p.take q) false H6r HKq).mono ?_; rintro e w7 ⟨rfl, H7b⟩
             rw [hV0]
             have H7 := Hid.mk' H7b.out.1
             clear H7b
             have a0 := H7.out.pp.c0
             have a1 := H7.out.pp.c1)
          | (go_at_call 15; refine (TS.step H4 HK q (by have := HQ.out.1; omega)).mono ?_; rintro e w6 ⟨r6, c6, rfl, H6⟩
             have H6a := Hid.mk' H6.out.1
             have H6r := Hid.mk' H6.out.2.2.1
             clear H6)
          | (go_at_call 17; refine (TS.look H7 d _ hd HLs.out).mono ?_; rintro e w8 ⟨rfl, H8⟩
             have b0 := H8.out.pp.c0
             have b1 := H8.out.pp.c1)
          | (go_at_call 13; refine h13.mono ?_; clear h13; rintro e w1 ⟨rfl, H1⟩)
          | (go_at_call 9; refine (TS.first H1).mono ?_; rintro e w2 ⟨rfl, H2⟩
             have x0 := H2.out.pp.c0
             have x1 := H2.out.pp.c1)
          | (go_at_call 16; refine (TS.parent H2 HF HK).mono ?_; rintro e w3 ⟨rfl, H3⟩
             rw [hE]
             have y0 := H3.out.pp.c0
             have y1 := H3.out.pp.c1)
          | (go_at_call 14; refine (TS.resolve H3 HF HK).mono ?_; rintro e w4 ⟨rfl, H4⟩
             have z0 := H4.out.pp.c0
             have z1 := H4.out.pp.c1
             have z2 := H4.out.kp.cell HCl.out id))
        go_ret
        exact ⟨rfl, H4.out.kp⟩
      · have hD' : (ls.toList == [46]) = false := hD
        have hU' : (ls.toList == [46, 46]) = true := hU
        clear hD hU
        go_enter Try.func6, Try.ntmps6
        go_wp2_with (first
          | (go_at_call 14; refine (TS.resolve2 H6a HF (.slice r6 q c6) (p.take q) false H6r HKq).mono ?_; rintro e w7 ⟨rfl, H7b⟩
             rw [hV0]
             have H7 := Hid.mk' H7b.out.1
             clear H7b
             have a0 := H7.out.pp.c0
             have a1 := H7.out.pp.c1)
          | (go_at_call 15; refine (TS.step H4 HK q (by have := HQ.out.1; omega)).mono ?_; rintro e w6 ⟨r6, c6, rfl, H6⟩
             have H6a := Hid.mk' H6.out.1
             have H6r := Hid.mk' H6.out.2.2.1
             clear H6)
          | (go_at_call 17; refine (TS.look H7 d _ hd HLs.out).mono ?_; rintro e w8 ⟨rfl, H8⟩
             have b0 := H8.out.pp.c0
             have b1 := H8.out.pp.c1)
          | (go_at_call 13; refine h13.mono ?_; clear h13; rintro e w1 ⟨rfl, H1⟩)
          | (go_at_call 9; refine (TS.first H1).mono ?_; rintro e w2 ⟨rfl, H2⟩
             have x0 := H2.out.pp.c0
             have x1 := H2.out.pp.c1)
          | (go_at_call 16; refine (TS.parent H2 HF HK).mono ?_; rintro e w3 ⟨rfl, H3⟩
             rw [hE]
             have y0 := H3.out.pp.c0
             have y1 := H3.out.pp.c1)
          | (go_at_call 14; refine (TS.resolve H3 HF HK).mono ?_; rintro e w4 ⟨rfl, H4⟩
             have z0 := H4.out.pp.c0
             have z1 := H4.out.pp.c1
             have z2 := H4.out.kp.cell HCl.out id))
        go_ret
        exact ⟨rfl, H4.out.kp⟩
    · have hDU : isDot (lastP p) = false ∧ isUp (lastP p) = false := by
        rw [hNm] at hN
        cases h1 : isDot (lastP p) <;> cases h2 : isUp (lastP p) <;> simp_all
      have hD' : ((lastP p).toList == [46]) = false := hDU.1
      have hU' : ((lastP p).toList == [46, 46]) = false := hDU.2
      clear hNm hN hp0 hc hq hp HC hDU
      generalize lastP p = ls at *
      rcases he with rfl | rfl
      all_goals
        go_enter Try.func6, Try.ntmps6
        go_wp2_with (first
          | (go_at_call 14; refine (TS.resolve2 H6a HF (.slice r6 q c6) (p.take q) false H6r HKq).mono ?_; rintro e w7 ⟨rfl, H7b⟩
             rw [hV0]
             have H7 := Hid.mk' H7b.out.1
             clear H7b
             have a0 := H7.out.pp.c0
             have a1 := H7.out.pp.c1)
          | (go_at_call 15; refine (TS.step H4 HK q (by have := HQ.out.1; omega)).mono ?_; rintro e w6 ⟨r6, c6, rfl, H6⟩
             have H6a := Hid.mk' H6.out.1
             have H6r := Hid.mk' H6.out.2.2.1
             clear H6)
          | (go_at_call 17; refine (TS.look H7 d _ hd HLs.out).mono ?_; rintro e w8 ⟨rfl, H8⟩
             have b0 := H8.out.pp.c0
             have b1 := H8.out.pp.c1)
          | (go_at_call 13; refine h13.mono ?_; clear h13; rintro e w1 ⟨rfl, H1⟩)
          | (go_at_call 9; refine (TS.first H1).mono ?_; rintro e w2 ⟨rfl, H2⟩
             have x0 := H2.out.pp.c0
             have x1 := H2.out.pp.c1)
          | (go_at_call 16; refine (TS.parent H2 HF HK).mono ?_; rintro e w3 ⟨rfl, H3⟩
             rw [hE]
             have y0 := H3.out.pp.c0
             have y1 := H3.out.pp.c1)
          | (go_at_call 14; refine (TS.resolve H3 HF HK).mono ?_; rintro e w4 ⟨rfl, H4⟩
             have z0 := H4.out.pp.c0
             have z1 := H4.out.pp.c1
             rw [hV]
             have z2 := H4.out.kp.cell HCl.out id))
        go_ret
        exact ⟨rfl, H4.out.kp⟩
    · have hDU : isDot (lastP p) = false ∧ isUp (lastP p) = false := by
        rw [hNm] at hN
        cases h1 : isDot (lastP p) <;> cases h2 : isUp (lastP p) <;> simp_all
      have hD' : ((lastP p).toList == [46]) = false := hDU.1
      have hU' : ((lastP p).toList == [46, 46]) = false := hDU.2
      rw [hq, Nat.add_sub_cancel] at hV0
      have hss : ((lastP p).toList == (lastP p).toList) = true := by simp
      clear hNm hN hp0 hc hq hp HC hDU
      generalize lastP p = ls at *
      by_cases h1 : (F d ls).1 < 1
      · rw [if_pos h1] at hV
        go_enter Try.func6, Try.ntmps6
        go_wp2_with (first
          | (go_at_call 14; refine (TS.resolve2 H6a HF (.slice r6 q c6) (p.take q) false H6r HKq).mono ?_; rintro e w7 ⟨rfl, H7b⟩
             rw [hV0]
             have H7 := Hid.mk' H7b.out.1
             clear H7b
             have a0 := H7.out.pp.c0
             have a1 := H7.out.pp.c1)
          | (go_at_call 15; refine (TS.step H4 HK q (by have := HQ.out.1; omega)).mono ?_; rintro e w6 ⟨r6, c6, rfl, H6⟩
             have H6a := Hid.mk' H6.out.1
             have H6r := Hid.mk' H6.out.2.2.1
             clear H6)
          | (go_at_call 17; refine (TS.look H7 d _ hd HLs.out).mono ?_; rintro e w8 ⟨rfl, H8⟩
             have b0 := H8.out.pp.c0
             have b1 := H8.out.pp.c1)
          | (go_at_call 13; refine h13.mono ?_; clear h13; rintro e w1 ⟨rfl, H1⟩)
          | (go_at_call 9; refine (TS.first H1).mono ?_; rintro e w2 ⟨rfl, H2⟩
             have x0 := H2.out.pp.c0
             have x1 := H2.out.pp.c1)
          | (go_at_call 16; refine (TS.parent H2 HF HK).mono ?_; rintro e w3 ⟨rfl, H3⟩
             rw [hE]
             have y0 := H3.out.pp.c0
             have y1 := H3.out.pp.c1)
          | (go_at_call 14; refine (TS.resolve H3 HF HK).mono ?_; rintro e w4 ⟨rfl, H4⟩
             have z0 := H4.out.pp.c0
             have z1 := H4.out.pp.c1
             rw [hV]
             have z2 := H4.out.kp.cell HCl.out id))
        go_ret
        exact ⟨rfl, H8.out.kp⟩
      · rw [if_neg h1] at hV
        cases sl <;> cases hyb : (F d ls).2
        all_goals
          rw [hyb] at hV
          simp only [Bool.not_false, Bool.not_true, Bool.and_true, Bool.and_false, if_true, if_false, Bool.false_eq_true] at hV
          go_enter Try.func6, Try.ntmps6
          go_wp2_with (first
            | (go_at_call 14; refine (TS.resolve2 H6a HF (.slice r6 q c6) (p.take q) false H6r HKq).mono ?_; rintro e w7 ⟨rfl, H7b⟩
               rw [hV0]
               have H7 := Hid.mk' H7b.out.1
               clear H7b
               have a0 := H7.out.pp.c0
               have a1 := H7.out.pp.c1)
            | (go_at_call 15; refine (TS.step H4 HK q (by have := HQ.out.1; omega)).mono ?_; rintro e w6 ⟨r6, c6, rfl, H6⟩
               have H6a := Hid.mk' H6.out.1
               have H6r := Hid.mk' H6.out.2.2.1
               clear H6)
            | (go_at_call 17; refine (TS.look H7 d _ hd HLs.out).mono ?_; rintro e w8 ⟨rfl, H8⟩
               have b0 := H8.out.pp.c0
               have b1 := H8.out.pp.c1)
            | (go_at_call 13; refine h13.mono ?_; clear h13; rintro e w1 ⟨rfl, H1⟩)
            | (go_at_call 9; refine (TS.first H1).mono ?_; rintro e w2 ⟨rfl, H2⟩
               have x0 := H2.out.pp.c0
               have x1 := H2.out.pp.c1)
            | (go_at_call 16; refine (TS.parent H2 HF HK).mono ?_; rintro e w3 ⟨rfl, H3⟩
               rw [hE]
               have y0 := H3.out.pp.c0
               have y1 := H3.out.pp.c1)
            | (go_at_call 14; refine (TS.resolve H3 HF HK).mono ?_; rintro e w4 ⟨rfl, H4⟩
               have z0 := H4.out.pp.c0
               have z1 := H4.out.pp.c1
               rw [hV]
               have z2 := H4.out.kp.cell HCl.out id))
          go_ret
          exact ⟨rfl, H8.out.kp⟩
end Go.Proofs.Ytfekgfimbkgkfaa
