import Derived.Test.YtfekgfimbkgkfabT7
namespace Go.Proofs.Ytfekgfimbkgkfab
open Go.RowKit Go.Maps

set_option maxHeartbeats 8000000 in
set_option maxRecDepth 100000 in
theorem steps_walk (w : World) (v0 : Value) (l : List Ed) (h0 : Row w v0 l.length (ecells l)) (hl : l.length ≤ 3518437208780) (ho : ∀ e ∈ l, EdOk e) (vp : Value) (p : List ByteArray) (sl : Bool) (hp : Row w vp p.length (strs p)) (hk : PsOk p) :
    Calls Try.prog 4 #[v0, .agg #[vp, .bool sl]] w fun e w' => e = .returned (.bool true) ∧ Keeps (fun _ => False) w w' := by
  have h9 := start_any w v0 l h0 hl ho vp p sl hp
  have HF : Hid (wfF (tabF l)) := wfF_tab ho
  have HK : Hid (PsOk p) := hk
  have HV : Hid (∀ g, vp.ownBlock = some g → 0 < p.length → g < w.heap.size) := hp.lt
  obtain ⟨va, vcp, rfl, _⟩ := id hp
  have H00 := Hid.mk' h0
  obtain ⟨ea, ec, rfl, _⟩ := id h0
  obtain ⟨i0, hi, hz0, hz1, hz2⟩ := info_parts info40
  obtain ⟨F, hFl⟩ : ∃ F, F = tabF l := ⟨_, rfl⟩
  rw [← hFl] at h9 HF
  have HFL : Hid (tabF l = F) := hFl.symm
  clear h0 ho hp hk hFl
  by_cases h300 : 300 < p.length
  · have h3 : (300 : Int) < (p.length : Int) := by omega
    go_enter Try.func4, Try.ntmps4
    go_wp2_with (first
      | (go_at_call 9; refine h9.mono ?_; clear h9; rintro e w1 ⟨rfl, H1⟩
         have h10 := TS.first H1)
      | (go_at_call 10; refine h10.mono ?_; clear h10; rintro e w2 ⟨rfl, H2⟩
         have x0 := H2.out.pp.c0
         have x1 := H2.out.pp.c1))
    go_ret
    exact ⟨rfl, H2.out.kp⟩
  have h3 : ¬ (300 : Int) < (p.length : Int) := by omega
  have hrs : rsv F [] false = (1, true, 0) := rfl
  go_enter Try.func4, Try.ntmps4
  go_wp2_with (first
    | (go_at_call 9; refine h9.mono ?_; clear h9; rintro e w1 ⟨rfl, H1⟩
       have h10 := TS.first H1)
    | (go_at_call 10; refine h10.mono ?_; clear h10; rintro e w2 ⟨rfl, H2⟩
       have x0 := H2.out.pp.c0
       have x1 := H2.out.pp.c1
       have h14 := TS.resolve2 H2 HF (.slice none 0 0) [] false (Hid.mk' (Row.of_own (World.ownsRow_nil _ 0 9 1))) (Hid.mk' ⟨by simp, by simp⟩)
       rw [hrs] at h14
       dsimp only at h14)
    | (go_at_call 14; refine h14.mono ?_; clear h14; rintro e w3 ⟨rfl, H3⟩
       have x0 := H3.out.1.pp.c0
       have x1 := H3.out.1.pp.c1))
  have HP0 : Hid (PS w (w.heap.size + 1 + 1) (w.heap.size + 1) l.length F w.heap.size (.slice va p.length vcp) p sl w3.heap.size (.slice none 0 0) 0 w3) := ⟨H3.out.1, World.ownsRow_nil _ _ _ _, Nat.le_refl _⟩
  have HB : Hid (w.heap.size + 1 + 1 < w3.heap.size) := heap_lt H3.out.1.tab.cell
  clear H1 H2 H3 x0 x1
  go_loopw [6, 7, 8, 9, 10] (fun vn vs vee vq i wr => ∃ k : Nat, k ≤ p.length ∧ i = .int .i64 k ∧ (∃ (qa : Option Addr) (qc : Nat), vq = .slice qa (asked F p k).length qc ∧ Hid (PS w (w.heap.size + 1 + 1) (w.heap.size + 1) l.length F w.heap.size (.slice va p.length vcp) p sl w3.heap.size (.slice qa (asked F p k).length qc) k wr)) ∧ vn = .int .i64 (rsv F (p.take k) false).1 ∧ vs = .bool (rsv F (p.take k) false).2.1 ∧ vee = .int .i64 (rsv F (p.take k) false).2.2) (fun _ _ _ _ i _ => p.length - (intOf i).toNat)
  case atStart => exact ⟨0, Nat.zero_le _, rfl, ⟨none, 0, rfl, HP0⟩, rfl, rfl, rfl⟩
  case round =>
    obtain ⟨k, hk, rfl, ⟨qa, qc, rfl, HP⟩, rfl, rfl, rfl⟩ := hrel
    clear HP0
    have x0 := HP.out.ts.pp.c0
    have x1 := HP.out.ts.pp.c1
    have hqn : (asked F p k).length ≤ k := asked_len F p k
    by_cases h1 : k < p.length
    · have h1' : (k : Int) < (p.length : Int) := by omega
      have hk1 : ((k : Int) + 1) = ((k + 1 : Nat) : Int) := by omega
      have h15 := PS.step HP HK (k + 1) (by omega)
      rw [← hk1] at h15
      clear hk1
      have hr := HP.out.ts.pp.row
      obtain ⟨b, o, cap', e, hb, hc⟩ := hr.pos (by omega)
      cases e
      have HC : Hid (∀ w', PS w (w.heap.size + 1 + 1) (w.heap.size + 1) l.length F w.heap.size (.slice (some ⟨b, o, none⟩) p.length vcp) p sl w3.heap.size (.slice qa (asked F p k).length qc) k w' → w'.cell? ⟨b, o + k, none⟩ = some (.string (p.getD k bz)) ∧ w'.cell? ⟨w.heap.size, 0, none⟩ = some (.slice (some ⟨b, o, none⟩) p.length vcp) ∧ w'.cell? ⟨w.heap.size, 1, none⟩ = some (.bool sl)) := by
        intro w' h
        obtain ⟨b', o', cap'', e, _, hc'⟩ := h.ts.pp.row.pos (by omega)
        cases e
        exact ⟨hc' k _ (strs_get h1), h.ts.pp.c0, h.ts.pp.c1⟩
      have hsz := HK.out.2 _ (getD_mem bz h1)
      have hcs := steps_next F HF.out p k h1 _ rfl
      obtain ⟨s, hs⟩ : ∃ s, p.getD k bz = s := ⟨_, rfl⟩
      rw [hs] at HC hsz hcs
      have HPK : Hid (PsOk (p.take (k + 1))) := HK.out.take _
      have HM : Hid (s.size ≤ maxLen) := by show s.size ≤ maxLen; unfold maxLen; omega
      clear hb hc hr hsz hs
      rcases hcs with ⟨e, he, hy, hz, ha⟩ | ⟨n, hy, hz, ha⟩ | ⟨n, hy, hD, hz, ha⟩ | ⟨n, m, hy, hD, hU, hz, ha⟩ | ⟨n, hw, hy, hD, hU, hz, ha⟩
      · rw [hy]
        dsimp only
        have HN : Hid (∀ w', PS w (w.heap.size + 1 + 1) (w.heap.size + 1) l.length F w.heap.size (.slice (some ⟨b, o, none⟩) p.length vcp) p sl w3.heap.size (.slice qa (asked F p k).length qc) k w' → PS w (w.heap.size + 1 + 1) (w.heap.size + 1) l.length F w.heap.size (.slice (some ⟨b, o, none⟩) p.length vcp) p sl w3.heap.size (.slice qa (asked F p (k + 1)).length qc) (k + 1) w') := fun w' h => ⟨h.ts, by rw [ha]; exact h.own, h.size⟩
        rcases he with rfl | rfl
        all_goals
          go_wp2_with (first
            | (go_at_call 15; refine h15.mono ?_; clear h15; rintro e w4 ⟨r4, c4, rfl, H4⟩
               have h14 := PS.res (Hid.mk' H4.out.1) HF (.slice r4 (k + 1) c4) (p.take (k + 1)) false (Hid.mk' H4.out.2) HPK
               rw [hz] at h14
               dsimp only at h14)
            | (go_at_call 14; refine h14.mono ?_; clear h14; rintro e w5 ⟨rfl, H5⟩
               obtain ⟨y0, y1, y2⟩ := HC.out _ H5.out
               clear H4))
          go_roundw
          case rel => exact ⟨k + 1, by omega, by go_num, ⟨qa, qc, by rw [ha], HN.out _ H5.out⟩, by rw [hz], by rw [hz], by rw [hz]⟩
          case measure => simp [intOf]; omega
      · rw [hy]
        dsimp only
        have HN : Hid (∀ w', PS w (w.heap.size + 1 + 1) (w.heap.size + 1) l.length F w.heap.size (.slice (some ⟨b, o, none⟩) p.length vcp) p sl w3.heap.size (.slice qa (asked F p k).length qc) k w' → PS w (w.heap.size + 1 + 1) (w.heap.size + 1) l.length F w.heap.size (.slice (some ⟨b, o, none⟩) p.length vcp) p sl w3.heap.size (.slice qa (asked F p (k + 1)).length qc) (k + 1) w') := fun w' h => ⟨h.ts, by rw [ha]; exact h.own, h.size⟩
        go_wp2_with (first
          | (go_at_call 15; refine h15.mono ?_; clear h15; rintro e w4 ⟨r4, c4, rfl, H4⟩
             have h14 := PS.res (Hid.mk' H4.out.1) HF (.slice r4 (k + 1) c4) (p.take (k + 1)) false (Hid.mk' H4.out.2) HPK
             rw [hz] at h14
             dsimp only at h14)
          | (go_at_call 14; refine h14.mono ?_; clear h14; rintro e w5 ⟨rfl, H5⟩
             obtain ⟨y0, y1, y2⟩ := HC.out _ H5.out
             clear H4))
        go_roundw
        case rel => exact ⟨k + 1, by omega, by go_num, ⟨qa, qc, by rw [ha], HN.out _ H5.out⟩, by rw [hz], by rw [hz], by rw [hz]⟩
        case measure => simp [intOf]; omega
      · rw [hy]
        dsimp only
        have hD' : s.toList = [46] := by simpa [isDot] using hD
        clear hD
        have HN : Hid (∀ w', PS w (w.heap.size + 1 + 1) (w.heap.size + 1) l.length F w.heap.size (.slice (some ⟨b, o, none⟩) p.length vcp) p sl w3.heap.size (.slice qa (asked F p k).length qc) k w' → PS w (w.heap.size + 1 + 1) (w.heap.size + 1) l.length F w.heap.size (.slice (some ⟨b, o, none⟩) p.length vcp) p sl w3.heap.size (.slice qa (asked F p (k + 1)).length qc) (k + 1) w') := fun w' h => ⟨h.ts, by rw [ha]; exact h.own, h.size⟩
        go_wp2_with (first
          | (go_at_call 15; refine h15.mono ?_; clear h15; rintro e w4 ⟨r4, c4, rfl, H4⟩
             have h14 := PS.res (Hid.mk' H4.out.1) HF (.slice r4 (k + 1) c4) (p.take (k + 1)) false (Hid.mk' H4.out.2) HPK
             rw [hz] at h14
             dsimp only at h14)
          | (go_at_call 14; refine h14.mono ?_; clear h14; rintro e w5 ⟨rfl, H5⟩
             obtain ⟨y0, y1, y2⟩ := HC.out _ H5.out
             clear H4))
        go_roundw
        case rel => exact ⟨k + 1, by omega, by go_num, ⟨qa, qc, by rw [ha], HN.out _ H5.out⟩, by rw [hz], by rw [hz], by rw [hz]⟩
        case measure => simp [intOf]; omega
      · rw [hy]
        dsimp only
        have hD' : (s.toList == [46]) = false := hD
        have hU' : s.toList = [46, 46] := by simpa [isUp] using hU
        clear hD hU
        have HN : Hid (∀ w', PS w (w.heap.size + 1 + 1) (w.heap.size + 1) l.length F w.heap.size (.slice (some ⟨b, o, none⟩) p.length vcp) p sl w3.heap.size (.slice qa (asked F p k).length qc) k w' → PS w (w.heap.size + 1 + 1) (w.heap.size + 1) l.length F w.heap.size (.slice (some ⟨b, o, none⟩) p.length vcp) p sl w3.heap.size (.slice qa (asked F p (k + 1)).length qc) (k + 1) w') := fun w' h => ⟨h.ts, by rw [ha]; exact h.own, h.size⟩
        go_wp2_with (first
          | (go_at_call 15; refine h15.mono ?_; clear h15; rintro e w4 ⟨r4, c4, rfl, H4⟩
             have h14 := PS.res (Hid.mk' H4.out.1) HF (.slice r4 (k + 1) c4) (p.take (k + 1)) false (Hid.mk' H4.out.2) HPK
             rw [hz] at h14
             dsimp only at h14)
          | (go_at_call 14; refine h14.mono ?_; clear h14; rintro e w5 ⟨rfl, H5⟩
             obtain ⟨y0, y1, y2⟩ := HC.out _ H5.out
             clear H4))
        go_roundw
        case rel => exact ⟨k + 1, by omega, by go_num, ⟨qa, qc, by rw [ha], HN.out _ H5.out⟩, by rw [hz], by rw [hz], by rw [hz]⟩
        case measure => simp [intOf]; omega
      · rw [hy]
        dsimp only
        have hD' : (s.toList == [46]) = false := hD
        have hU' : (s.toList == [46, 46]) = false := hU
        have HW := Hid.mk' hw
        have HN : Hid (∀ w6 w7 ra rc, PS w (w.heap.size + 1 + 1) (w.heap.size + 1) l.length F w.heap.size (.slice (some ⟨b, o, none⟩) p.length vcp) p sl w3.heap.size (.slice qa (asked F p k).length qc) k w6 → w7.ownsRow w3.heap.size 40 4 (.slice ra ((asked F p k).length + 1) rc) ((asked F p k).length + 1) (ecells (asked F p k) ++ ecells [(n, s, 0, false)]) → (w6.alloc (.cells #[.int .i64 n, .string s, .int .i64 0, .bool false] 40)).grownBy w7 (Value.slice qa (asked F p k).length qc).ownBlock → Hid (PS w (w.heap.size + 1 + 1) (w.heap.size + 1) l.length F w.heap.size (.slice (some ⟨b, o, none⟩) p.length vcp) p sl w3.heap.size (.slice ra ((asked F p k).length + 1) rc) (k + 1) w7)) := by
          intro w6 w7 ra rc h hown hgr
          have h1 := h.keep ((Keeps.refl (fun _ => False) w6).alloc (.cells #[.int .i64 n, .string s, .int .i64 0, .bool false] 40))
          have k1 : Keeps (fun c => (Value.slice qa (asked F p k).length qc).ownBlock = some c) (w6.alloc (.cells #[.int .i64 n, .string s, .int .i64 0, .bool false] 40)) w7 := Keeps.of hgr (fun c hc => Or.inl hc)
          have hb := HB.out
          refine ⟨h1.ts.keepX k1 (fun c hc => (h1.own.lt c hc).1) (by omega) hb (by omega) (by omega) (fun g hg hp0 => by have := HV.out g hg hp0; omega), ?_, Nat.le_trans h1.size k1.size⟩
          rw [ha, ecells_app, List.length_append]; exact hown
        clear hD hU hw
        obtain ⟨⟨yn, yb⟩, hY⟩ : ∃ y, F n s = y := ⟨_, rfl⟩
        rw [hY] at hz
        by_cases hy1 : yn < 1
        · rw [if_pos hy1] at hz
          go_wp2_with (first
            | (go_at_call 15; refine h15.mono ?_; clear h15; rintro e w4 ⟨r4, c4, rfl, H4⟩
               have h14 := PS.res (Hid.mk' H4.out.1) HF (.slice r4 (k + 1) c4) (p.take (k + 1)) false (Hid.mk' H4.out.2) HPK
               rw [hz] at h14
               dsimp only at h14)
            | (go_at_call 14; refine h14.mono ?_; clear h14; rintro e w5 ⟨rfl, H5⟩
               obtain ⟨y0, y1, y2⟩ := HC.out _ H5.out
               have h16 := PS.look H5 n s HW.out HM.out
               rw [hY] at h16
               dsimp only at h16
               clear H4)
            | (go_at_call 16; refine h16.mono ?_; clear h16; rintro e w6 ⟨rfl, H6⟩
               obtain ⟨y0, y1, y2⟩ := HC.out _ H6.out)
            | (at_builtin; go_must (refine wpList_append_own_at _ rfl _ _ 22 rfl w3.heap.size 40 i0 (.agg #[.int .i64 0, .string ⟨#[]⟩, .int .i64 0, .bool false]) 4 40 Try.underlying22 hi hz0 hz1 hz2 rfl (by decide) (.slice qa (asked F p k).length qc) (asked F p k).length (ecells (asked F p k)) rfl (World.ownsRow.alloc H6.out.own _) ⟨w6.heap.size, 0, none⟩ 1 1 (ecells [(n, s, 0, false)]) rfl rfl (World.news_of_block (heap_last _ _)) (ecells_one _) (by unfold maxLen; omega) (by omega) (by rw [World.size_alloc]; have := H6.out.size; omega) ?_); intro v' w7 hown hgr _ _
               obtain ⟨ra, rc, er, _⟩ := Row.of_own hown
               subst er
               have HN2 := HN.out w6 w7 ra rc H6.out hown hgr
               clear hown hgr))
          go_roundw
          case rel => exact ⟨k + 1, by omega, by go_num, ⟨ra, rc, by rw [ha, List.length_append]; rfl, by rw [ha, List.length_append]; exact HN2⟩, by rw [hz], by rw [hz], by rw [hz]⟩
          case measure => simp [intOf]; omega
        · rw [if_neg hy1] at hz
          have hy2 : 1 ≤ yn := by omega
          go_wp2_with (first
            | (go_at_call 15; refine h15.mono ?_; clear h15; rintro e w4 ⟨r4, c4, rfl, H4⟩
               have h14 := PS.res (Hid.mk' H4.out.1) HF (.slice r4 (k + 1) c4) (p.take (k + 1)) false (Hid.mk' H4.out.2) HPK
               rw [hz] at h14
               dsimp only at h14)
            | (go_at_call 14; refine h14.mono ?_; clear h14; rintro e w5 ⟨rfl, H5⟩
               obtain ⟨y0, y1, y2⟩ := HC.out _ H5.out
               have h16 := PS.look H5 n s HW.out HM.out
               rw [hY] at h16
               dsimp only at h16
               clear H4)
            | (go_at_call 16; refine h16.mono ?_; clear h16; rintro e w6 ⟨rfl, H6⟩
               obtain ⟨y0, y1, y2⟩ := HC.out _ H6.out)
            | (at_builtin; go_must (refine wpList_append_own_at _ rfl _ _ 22 rfl w3.heap.size 40 i0 (.agg #[.int .i64 0, .string ⟨#[]⟩, .int .i64 0, .bool false]) 4 40 Try.underlying22 hi hz0 hz1 hz2 rfl (by decide) (.slice qa (asked F p k).length qc) (asked F p k).length (ecells (asked F p k)) rfl (World.ownsRow.alloc H6.out.own _) ⟨w6.heap.size, 0, none⟩ 1 1 (ecells [(n, s, 0, false)]) rfl rfl (World.news_of_block (heap_last _ _)) (ecells_one _) (by unfold maxLen; omega) (by omega) (by rw [World.size_alloc]; have := H6.out.size; omega) ?_); intro v' w7 hown hgr _ _
               obtain ⟨ra, rc, er, _⟩ := Row.of_own hown
               subst er
               have HN2 := HN.out w6 w7 ra rc H6.out hown hgr
               clear hown hgr))
          go_roundw
          case rel => exact ⟨k + 1, by omega, by go_num, ⟨ra, rc, by rw [ha, List.length_append]; rfl, by rw [ha, List.length_append]; exact HN2⟩, by rw [hz], by rw [hz], by rw [hz]⟩
          case measure => simp [intOf]; omega
    · have h1' : ¬ (k : Int) < (p.length : Int) := by omega
      have ek : k = p.length := by omega
      subst ek
      have hcs := steps_end F p sl
      rw [List.take_length]
      have h17 := PS.hears HP HF HK (.slice ea l.length ec) l H00 hl HFL.out (by omega)
      rcases hcs with ⟨e, he, hy, hz⟩ | ⟨n, hy, hsl, hz⟩ | ⟨n, b, hy, hsl, hz⟩
      · rw [hy]
        dsimp only
        rcases he with rfl | rfl
        all_goals
          go_wp2_with (first
            | (go_at_call 17; refine h17.mono ?_; clear h17; rintro e w4 ⟨rfl, H4⟩
               have y0 := H4.out.ts.pp.c0
               have y1 := H4.out.ts.pp.c1
               have h14 := PS.res H4 HF (.slice va p.length vcp) p sl (Hid.mk' H4.out.ts.pp.row) HK
               rw [hz] at h14
               dsimp only at h14)
            | (go_at_call 14; refine h14.mono ?_; clear h14; rintro e w5 ⟨rfl, H5⟩
               have z0 := H5.out.ts.pp.c0
               have z1 := H5.out.ts.pp.c1
               clear H4))
          go_ret
          exact ⟨rfl, H5.out.ts.kp⟩
      · rw [hy]
        dsimp only
        subst hsl
        go_wp2_with (first
          | (go_at_call 17; refine h17.mono ?_; clear h17; rintro e w4 ⟨rfl, H4⟩
             have y0 := H4.out.ts.pp.c0
             have y1 := H4.out.ts.pp.c1
             have h14 := PS.res H4 HF (.slice va p.length vcp) p true (Hid.mk' H4.out.ts.pp.row) HK
             rw [hz] at h14
             dsimp only at h14)
          | (go_at_call 14; refine h14.mono ?_; clear h14; rintro e w5 ⟨rfl, H5⟩
             have z0 := H5.out.ts.pp.c0
             have z1 := H5.out.ts.pp.c1
             clear H4))
        go_ret
        exact ⟨rfl, H5.out.ts.kp⟩
      · rw [hy]
        dsimp only
        rcases hsl with rfl | rfl
        · cases b
          all_goals
            go_wp2_with (first
              | (go_at_call 17; refine h17.mono ?_; clear h17; rintro e w4 ⟨rfl, H4⟩
                 have y0 := H4.out.ts.pp.c0
                 have y1 := H4.out.ts.pp.c1
                 have h14 := PS.res H4 HF (.slice va p.length vcp) p false (Hid.mk' H4.out.ts.pp.row) HK
                 rw [hz] at h14
                 dsimp only at h14)
              | (go_at_call 14; refine h14.mono ?_; clear h14; rintro e w5 ⟨rfl, H5⟩
                 have z0 := H5.out.ts.pp.c0
                 have z1 := H5.out.ts.pp.c1
                 clear H4))
            go_ret
            exact ⟨rfl, H5.out.ts.kp⟩
        · cases sl
          case false =>
            go_wp2_with (first
              | (go_at_call 17; refine h17.mono ?_; clear h17; rintro e w4 ⟨rfl, H4⟩
                 have y0 := H4.out.ts.pp.c0
                 have y1 := H4.out.ts.pp.c1
                 have h14 := PS.res H4 HF (.slice va p.length vcp) p false (Hid.mk' H4.out.ts.pp.row) HK
                 rw [hz] at h14
                 dsimp only at h14)
              | (go_at_call 14; refine h14.mono ?_; clear h14; rintro e w5 ⟨rfl, H5⟩
                 have z0 := H5.out.ts.pp.c0
                 have z1 := H5.out.ts.pp.c1
                 clear H4))
            go_ret
            exact ⟨rfl, H5.out.ts.kp⟩
          case true =>
            go_wp2_with (first
              | (go_at_call 17; refine h17.mono ?_; clear h17; rintro e w4 ⟨rfl, H4⟩
                 have y0 := H4.out.ts.pp.c0
                 have y1 := H4.out.ts.pp.c1
                 have h14 := PS.res H4 HF (.slice va p.length vcp) p true (Hid.mk' H4.out.ts.pp.row) HK
                 rw [hz] at h14
                 dsimp only at h14)
              | (go_at_call 14; refine h14.mono ?_; clear h14; rintro e w5 ⟨rfl, H5⟩
                 have z0 := H5.out.ts.pp.c0
                 have z1 := H5.out.ts.pp.c1
                 clear H4))
            go_ret
            exact ⟨rfl, H5.out.ts.kp⟩
end Go.Proofs.Ytfekgfimbkgkfab
