import Derived.Test.YtfekgfimbkgkfabS3
import Derived.Test.YtfekgfimbkgkfabS4
import Derived.Test.YtfekgfimbkgkfabS5
namespace Go.Proofs.Ytfekgfimbkgkfab
open Go.RowKit Go.Maps

theorem bare_len_snoc (ps : List ByteArray) (k : Nat) (hk : k < ps.length) : bare (ps.take (k + 1)) = bare (ps.take k) ++ 47 :: (ps.getD k bz).data.toList := by rw [take_getD bz hk, bare_snoc]

set_option maxHeartbeats 4000000 in
set_option maxRecDepth 100000 in
theorem rtext_any (w : World) (v : Value) (ps : List ByteArray) (sl : Bool) (h : Row w v ps.length (strs ps)) (hn : ps.length < 8796093022000) (hz : ∀ s ∈ ps, s.size ≤ 281474976710656) :
    Calls Try.prog 38 #[.agg #[v, .bool sl]] w fun e w' => e = .returned (.string (txtF ps sl)) ∧ Keeps (fun _ => False) w w' := by
  have HR : Hid (Row w v ps.length (strs ps)) := h
  obtain ⟨a, cap, rfl, _⟩ := h
  have hK0 : Keeps (fun _ => False) w (w.alloc (.cells #[.slice a ps.length cap, .bool sl] 25)) := (Keeps.refl _ w).alloc _
  have hB0 := heap_last w (.cells #[.slice a ps.length cap, .bool sl] 25)
  have HB : Hid (Keeps (fun _ => False) w (w.alloc (.cells #[.slice a ps.length cap, .bool sl] 25)) ∧ (w.alloc (.cells #[.slice a ps.length cap, .bool sl] 25)).heap[w.heap.size]? = some (.cells #[.slice a ps.length cap, .bool sl] 25)) := ⟨hK0, hB0⟩
  have HZ := Hid.mk' hz
  obtain ⟨c0, c1, _⟩ := cells2 hB0
  clear hK0 hB0 hz
  by_cases he : ps = [] ∧ sl = false
  · obtain ⟨e1, e2⟩ := he
    subst e1 e2
    rw [rtext_root]
    simp only [List.length_nil] at *
    go_enter Try.func38, Try.ntmps38
    go_wp2
    go_ret
    exact ⟨rfl, HB.out.1⟩
  · have HE : Hid (¬ (ps = [] ∧ sl = false)) := he
    obtain ⟨m, hm⟩ : ∃ m, m = ps.length := ⟨_, rfl⟩
    have HM : Hid (ps.length = m) := hm.symm
    have hsp : (((m : Int) == 0) = true ∧ sl = true) ∨ ((m : Int) == 0) = false := by
      rcases Nat.eq_zero_or_pos m with h0 | h0
      · left
        refine ⟨by rw [h0]; rfl, ?_⟩
        cases sl with
        | true => rfl
        | false => exact absurd ⟨List.length_eq_zero_iff.1 (by omega), rfl⟩ he
      · exact Or.inr (beq_eq_false_iff_ne.2 (by omega))
    rw [← hm] at hn HR HB c0 c1
    rw [show ps.length = m from HM.out]
    clear he hm
    rcases hsp with ⟨hp', rfl⟩ | hp'
    · go_enter Try.func38, Try.ntmps38
      go_wp2
      obtain ⟨W0, hW0⟩ : ∃ W0, W0 = w.alloc (.cells #[.slice a m cap, .bool true] 25) := ⟨_, rfl⟩
      rw [← hW0] at HB
      go_loopw [3, 4] (fun v3 v4 wr => ∃ k : Nat, k ≤ m ∧ v4 = .int .i64 k ∧ ∃ T : ByteArray, v3 = .string T ∧ T.size ≤ 200 ∧ Hid (T = mkB (bare (ps.take k)) ∧ Keeps (fun _ => False) W0 wr)) (fun _ i _ => m - (intOf i).toNat)
      case atStart => exact ⟨0, Nat.zero_le _, rfl, _, rfl, by decide, rfl, by rw [← hW0]; exact Keeps.refl _ _⟩
      case round =>
        obtain ⟨k, hk, rfl, T, rfl, hT, HI⟩ := hrel
        clear hW0 c0 c1
        obtain ⟨c0, c1, _⟩ := cells2 (HI.out.2.at HB.out.2 id)
        by_cases h1 : k < m
        · obtain ⟨b, o, cap', e, hb, hc⟩ := HR.out.pos (by omega)
          cases e
          have h1' : (k : Int) < (m : Int) := by omega
          have h1p : k < ps.length := by rw [HM.out]; exact h1
          have c2 := (HB.out.1.trans HI.out.2).cell (hc k _ (strs_get h1p)) id
          have HS : Hid (T ++ ⟨#[47]⟩ ++ ps.getD k bz = mkB (bare (ps.take (k + 1)))) := by
            show _ = _
            rw [HI.out.1, bare_len_snoc ps k h1p, mkB_app]
          have hsz := HZ.out _ (getD_mem bz h1p)
          have HLn : Hid ((bare (ps.take (k + 1))).length = T.size + 1 + (ps.getD k bz).size) := by
            show _ = _
            rw [bare_len_snoc ps k h1p, HI.out.1, mkB_size, size_len (ps.getD k bz)]
            simp; omega
          generalize ps.getD k bz = s at c2 HS hsz HLn
          have y1 : ¬ 9223372036854775807 < T.size + 1 := by omega
          have y2 : ¬ 9223372036854775807 < T.size + 1 + s.size := by omega
          clear hc h1p
          by_cases h2 : 200 < T.size + 1 + s.size
          · have h2' : (200 : Int) < (T.size : Int) + 1 + (s.size : Int) := by omega
            go_wp2
            go_ret
            exact ⟨by rw [rtext_long (k := k + 1) (by rw [HLn.out]; exact h2)]; rfl, HB.out.1.trans HI.out.2⟩
          · have h2' : ¬ (200 : Int) < (T.size : Int) + 1 + (s.size : Int) := by omega
            go_wp2
            go_roundw
            case rel => exact ⟨k + 1, by omega, by go_num, _, rfl, by rw [HS.out, mkB_size, HLn.out]; omega, HS.out, HI.out.2⟩
            case measure => simp [intOf]; omega
        · have h1' : ¬ (k : Int) < (m : Int) := by omega
          have hT2 : T = mkB (bare ps) := by
            have := HI.out.1
            rw [List.take_of_length_le (by rw [HM.out]; omega)] at this
            exact this
          have y1 : ¬ 9223372036854775807 < T.size + 1 := by omega
          have HT2 : Hid (T ++ ⟨#[47]⟩ = mkB (rT ps true)) := by
            show _ = _
            rw [hT2]; unfold rT
            rw [if_pos rfl]; rw [show (⟨#[47]⟩ : ByteArray) = mkB [47] from rfl, mkB_cat]
          have h36 := rparse_any wr (T ++ ⟨#[47]⟩) (by rw [HT2.out, mkB_size]; have e : (rT ps true).length ≤ T.size + 1 := by { rw [hT2, mkB_size]; unfold rT; rw [List.length_append]; simp }; omega)
          rw [show (T ++ ⟨#[47]⟩).data.toList = rT ps true by rw [HT2.out, data_mkB]] at h36
          by_cases hy : prsE (rT ps true) = 0 ∧ ps = prsP (rT ps true) ∧ true = prsS (rT ps true)
          · have HX : Hid (txtF ps true = T ++ ⟨#[47]⟩) := by rw [HT2.out]; exact rtext_yes HE.out hy.1 hy.2.1 hy.2.2
            rw [hy.1, ← hy.2.1, ← hy.2.2] at h36
            clear hy hT2
            go_wp2_with (first
              | (go_at_call 36; refine h36.mono ?_; clear h36; rintro e w1 ⟨r, rfl, H1⟩
                 have hR1 := Row.of_own H1.out.1
                 rw [HM.out] at hR1
                 obtain ⟨ra, rc, er, _⟩ := id hR1
                 subst er
                 have h37 : ∀ W', Keeps (fun _ => False) w1 W' → Calls Try.prog 37 #[.agg #[.slice a m cap, .bool true], .agg #[.slice ra m rc, .bool true]] W' fun e w' => e = .returned (.bool true) ∧ Keeps (fun _ => False) w w' := fun W' hk => by
                   refine (rsame_any W' (.slice a m cap) (.slice ra m rc) ps ps true true (by rw [HM.out]; exact HR.out.keep (((HB.out.1.trans HI.out.2).trans H1.out.2).trans hk)) (by rw [HM.out]; exact hR1.keep hk) (by rw [HM.out]; exact hn)).mono ?_
                   rintro e w' ⟨rfl, hk'⟩
                   exact ⟨by simp, (((HB.out.1.trans HI.out.2).trans H1.out.2).trans hk).trans hk'⟩
                 obtain ⟨x0, x1, _⟩ := cells2 ((H1.out.2.alloc (.cells #[.slice ra m rc, .bool true] 25)).at (HI.out.2.at HB.out.2 id) id))
              | (go_at_call 37; refine (h37 _ ((Keeps.refl _ w1).alloc _)).mono ?_; clear h37; rintro e w2 ⟨rfl, hk2⟩))
            go_ret
            exact ⟨by rw [HX.out]; rfl, hk2⟩
          · have HX : Hid (txtF ps true = bz) := rtext_no HE.out hy
            have hyy : (¬ prsE (rT ps true) = 0) ∨ (prsE (rT ps true) = 0 ∧ decide (ps = prsP (rT ps true) ∧ true = prsS (rT ps true)) = false) := by
              by_cases h0 : prsE (rT ps true) = 0
              · exact Or.inr ⟨h0, decide_eq_false (fun h => hy ⟨h0, h⟩)⟩
              · exact Or.inl h0
            clear hy hT2
            generalize prsE (rT ps true) = E at h36 hyy
            generalize prsP (rT ps true) = Q at h36 hyy
            generalize prsS (rT ps true) = S at h36 hyy
            rcases hyy with hE | ⟨rfl, hQ⟩
            · have hE1 : (E != 0) = true := bne_iff_ne.2 hE
              have hE2 : (E == 0) = false := beq_eq_false_iff_ne.2 hE
              obtain ⟨bb, hbb⟩ : ∃ bb, bb = decide (ps = Q ∧ true = S) := ⟨_, rfl⟩
              have HBB := Hid.mk' hbb
              clear hbb
              go_wp2_with (first
                | (go_at_call 36; refine h36.mono ?_; clear h36; rintro e w1 ⟨r, rfl, H1⟩
                   have hR1 := Row.of_own H1.out.1
                   obtain ⟨ra, rc, er, _⟩ := id hR1
                   subst er
                   have h37 : ∀ W', Keeps (fun _ => False) w1 W' → Calls Try.prog 37 #[.agg #[.slice a m cap, .bool true], .agg #[.slice ra Q.length rc, .bool S]] W' fun e w' => e = .returned (.bool bb) ∧ Keeps (fun _ => False) w w' := fun W' hk => by
                     refine (rsame_any W' (.slice a m cap) (.slice ra Q.length rc) ps Q true S (by rw [HM.out]; exact HR.out.keep (((HB.out.1.trans HI.out.2).trans H1.out.2).trans hk)) (hR1.keep hk) (by rw [HM.out]; exact hn)).mono ?_
                     rintro e w' ⟨rfl, hk'⟩
                     exact ⟨congrArg (fun b => Ending.returned (.bool b)) HBB.out.symm, (((HB.out.1.trans HI.out.2).trans H1.out.2).trans hk).trans hk'⟩
                   obtain ⟨x0, x1, _⟩ := cells2 ((H1.out.2.alloc (.cells #[.slice ra Q.length rc, .bool S] 25)).at (HI.out.2.at HB.out.2 id) id)
                   clear hR1 HBB)
                | (go_at_call 37; refine (h37 _ ((Keeps.refl _ w1).alloc _)).mono ?_; clear h37; rintro e w2 ⟨rfl, hk2⟩))
              go_ret
              exact ⟨by rw [HX.out]; rfl, hk2⟩
            · have HBB := Hid.mk' hQ.symm
              clear hQ
              go_wp2_with (first
                | (go_at_call 36; refine h36.mono ?_; clear h36; rintro e w1 ⟨r, rfl, H1⟩
                   have hR1 := Row.of_own H1.out.1
                   obtain ⟨ra, rc, er, _⟩ := id hR1
                   subst er
                   have h37 : ∀ W', Keeps (fun _ => False) w1 W' → Calls Try.prog 37 #[.agg #[.slice a m cap, .bool true], .agg #[.slice ra Q.length rc, .bool S]] W' fun e w' => e = .returned (.bool false) ∧ Keeps (fun _ => False) w w' := fun W' hk => by
                     refine (rsame_any W' (.slice a m cap) (.slice ra Q.length rc) ps Q true S (by rw [HM.out]; exact HR.out.keep (((HB.out.1.trans HI.out.2).trans H1.out.2).trans hk)) (hR1.keep hk) (by rw [HM.out]; exact hn)).mono ?_
                     rintro e w' ⟨rfl, hk'⟩
                     exact ⟨congrArg (fun b => Ending.returned (.bool b)) HBB.out.symm, (((HB.out.1.trans HI.out.2).trans H1.out.2).trans hk).trans hk'⟩
                   obtain ⟨x0, x1, _⟩ := cells2 ((H1.out.2.alloc (.cells #[.slice ra Q.length rc, .bool S] 25)).at (HI.out.2.at HB.out.2 id) id)
                   clear hR1 HBB)
                | (go_at_call 37; refine (h37 _ ((Keeps.refl _ w1).alloc _)).mono ?_; clear h37; rintro e w2 ⟨rfl, hk2⟩))
              go_ret
              exact ⟨by rw [HX.out]; rfl, hk2⟩
    · go_enter Try.func38, Try.ntmps38
      go_wp2
      obtain ⟨W0, hW0⟩ : ∃ W0, W0 = w.alloc (.cells #[.slice a m cap, .bool sl] 25) := ⟨_, rfl⟩
      rw [← hW0] at HB
      go_loopw [3, 4] (fun v3 v4 wr => ∃ k : Nat, k ≤ m ∧ v4 = .int .i64 k ∧ ∃ T : ByteArray, v3 = .string T ∧ T.size ≤ 200 ∧ Hid (T = mkB (bare (ps.take k)) ∧ Keeps (fun _ => False) W0 wr)) (fun _ i _ => m - (intOf i).toNat)
      case atStart => exact ⟨0, Nat.zero_le _, rfl, _, rfl, by decide, rfl, by rw [← hW0]; exact Keeps.refl _ _⟩
      case round =>
        obtain ⟨k, hk, rfl, T, rfl, hT, HI⟩ := hrel
        clear hW0 c0 c1
        obtain ⟨c0, c1, _⟩ := cells2 (HI.out.2.at HB.out.2 id)
        by_cases h1 : k < m
        · obtain ⟨b, o, cap', e, hb, hc⟩ := HR.out.pos (by omega)
          cases e
          have h1' : (k : Int) < (m : Int) := by omega
          have h1p : k < ps.length := by rw [HM.out]; exact h1
          have c2 := (HB.out.1.trans HI.out.2).cell (hc k _ (strs_get h1p)) id
          have HS : Hid (T ++ ⟨#[47]⟩ ++ ps.getD k bz = mkB (bare (ps.take (k + 1)))) := by
            show _ = _
            rw [HI.out.1, bare_len_snoc ps k h1p, mkB_app]
          have hsz := HZ.out _ (getD_mem bz h1p)
          have HLn : Hid ((bare (ps.take (k + 1))).length = T.size + 1 + (ps.getD k bz).size) := by
            show _ = _
            rw [bare_len_snoc ps k h1p, HI.out.1, mkB_size, size_len (ps.getD k bz)]
            simp; omega
          generalize ps.getD k bz = s at c2 HS hsz HLn
          have y1 : ¬ 9223372036854775807 < T.size + 1 := by omega
          have y2 : ¬ 9223372036854775807 < T.size + 1 + s.size := by omega
          clear hc h1p
          by_cases h2 : 200 < T.size + 1 + s.size
          · have h2' : (200 : Int) < (T.size : Int) + 1 + (s.size : Int) := by omega
            go_wp2
            go_ret
            exact ⟨by rw [rtext_long (k := k + 1) (by rw [HLn.out]; exact h2)]; rfl, HB.out.1.trans HI.out.2⟩
          · have h2' : ¬ (200 : Int) < (T.size : Int) + 1 + (s.size : Int) := by omega
            go_wp2
            go_roundw
            case rel => exact ⟨k + 1, by omega, by go_num, _, rfl, by rw [HS.out, mkB_size, HLn.out]; omega, HS.out, HI.out.2⟩
            case measure => simp [intOf]; omega
        · have h1' : ¬ (k : Int) < (m : Int) := by omega
          have hT2 : T = mkB (bare ps) := by
            have := HI.out.1
            rw [List.take_of_length_le (by rw [HM.out]; omega)] at this
            exact this
          have y1 : ¬ 9223372036854775807 < T.size + 1 := by omega
          cases sl with
          | false =>
            have HT2 : Hid (T = mkB (rT ps false)) := by
              show _ = _
              rw [hT2]; unfold rT
              simp
            have h36 := rparse_any wr (T) (by rw [HT2.out, mkB_size]; have e : (rT ps false).length ≤ T.size + 1 := by { rw [hT2, mkB_size]; unfold rT; rw [List.length_append]; simp }; omega)
            rw [show (T).data.toList = rT ps false by rw [HT2.out, data_mkB]] at h36
            by_cases hy : prsE (rT ps false) = 0 ∧ ps = prsP (rT ps false) ∧ false = prsS (rT ps false)
            · have HX : Hid (txtF ps false = T) := by rw [HT2.out]; exact rtext_yes HE.out hy.1 hy.2.1 hy.2.2
              rw [hy.1, ← hy.2.1, ← hy.2.2] at h36
              clear hy hT2
              go_wp2_with (first
                | (go_at_call 36; refine h36.mono ?_; clear h36; rintro e w1 ⟨r, rfl, H1⟩
                   have hR1 := Row.of_own H1.out.1
                   rw [HM.out] at hR1
                   obtain ⟨ra, rc, er, _⟩ := id hR1
                   subst er
                   have h37 : ∀ W', Keeps (fun _ => False) w1 W' → Calls Try.prog 37 #[.agg #[.slice a m cap, .bool false], .agg #[.slice ra m rc, .bool false]] W' fun e w' => e = .returned (.bool true) ∧ Keeps (fun _ => False) w w' := fun W' hk => by
                     refine (rsame_any W' (.slice a m cap) (.slice ra m rc) ps ps false false (by rw [HM.out]; exact HR.out.keep (((HB.out.1.trans HI.out.2).trans H1.out.2).trans hk)) (by rw [HM.out]; exact hR1.keep hk) (by rw [HM.out]; exact hn)).mono ?_
                     rintro e w' ⟨rfl, hk'⟩
                     exact ⟨by simp, (((HB.out.1.trans HI.out.2).trans H1.out.2).trans hk).trans hk'⟩
                   obtain ⟨x0, x1, _⟩ := cells2 ((H1.out.2.alloc (.cells #[.slice ra m rc, .bool false] 25)).at (HI.out.2.at HB.out.2 id) id))
                | (go_at_call 37; refine (h37 _ ((Keeps.refl _ w1).alloc _)).mono ?_; clear h37; rintro e w2 ⟨rfl, hk2⟩))
              go_ret
              exact ⟨by rw [HX.out]; rfl, hk2⟩
            · have HX : Hid (txtF ps false = bz) := rtext_no HE.out hy
              have hyy : (¬ prsE (rT ps false) = 0) ∨ (prsE (rT ps false) = 0 ∧ decide (ps = prsP (rT ps false) ∧ false = prsS (rT ps false)) = false) := by
                by_cases h0 : prsE (rT ps false) = 0
                · exact Or.inr ⟨h0, decide_eq_false (fun h => hy ⟨h0, h⟩)⟩
                · exact Or.inl h0
              clear hy hT2
              generalize prsE (rT ps false) = E at h36 hyy
              generalize prsP (rT ps false) = Q at h36 hyy
              generalize prsS (rT ps false) = S at h36 hyy
              rcases hyy with hE | ⟨rfl, hQ⟩
              · have hE1 : (E != 0) = true := bne_iff_ne.2 hE
                have hE2 : (E == 0) = false := beq_eq_false_iff_ne.2 hE
                obtain ⟨bb, hbb⟩ : ∃ bb, bb = decide (ps = Q ∧ false = S) := ⟨_, rfl⟩
                have HBB := Hid.mk' hbb
                clear hbb
                go_wp2_with (first
                  | (go_at_call 36; refine h36.mono ?_; clear h36; rintro e w1 ⟨r, rfl, H1⟩
                     have hR1 := Row.of_own H1.out.1
                     obtain ⟨ra, rc, er, _⟩ := id hR1
                     subst er
                     have h37 : ∀ W', Keeps (fun _ => False) w1 W' → Calls Try.prog 37 #[.agg #[.slice a m cap, .bool false], .agg #[.slice ra Q.length rc, .bool S]] W' fun e w' => e = .returned (.bool bb) ∧ Keeps (fun _ => False) w w' := fun W' hk => by
                       refine (rsame_any W' (.slice a m cap) (.slice ra Q.length rc) ps Q false S (by rw [HM.out]; exact HR.out.keep (((HB.out.1.trans HI.out.2).trans H1.out.2).trans hk)) (hR1.keep hk) (by rw [HM.out]; exact hn)).mono ?_
                       rintro e w' ⟨rfl, hk'⟩
                       exact ⟨congrArg (fun b => Ending.returned (.bool b)) HBB.out.symm, (((HB.out.1.trans HI.out.2).trans H1.out.2).trans hk).trans hk'⟩
                     obtain ⟨x0, x1, _⟩ := cells2 ((H1.out.2.alloc (.cells #[.slice ra Q.length rc, .bool S] 25)).at (HI.out.2.at HB.out.2 id) id)
                     clear hR1 HBB)
                  | (go_at_call 37; refine (h37 _ ((Keeps.refl _ w1).alloc _)).mono ?_; clear h37; rintro e w2 ⟨rfl, hk2⟩))
                go_ret
                exact ⟨by rw [HX.out]; rfl, hk2⟩
              · have HBB := Hid.mk' hQ.symm
                clear hQ
                go_wp2_with (first
                  | (go_at_call 36; refine h36.mono ?_; clear h36; rintro e w1 ⟨r, rfl, H1⟩
                     have hR1 := Row.of_own H1.out.1
                     obtain ⟨ra, rc, er, _⟩ := id hR1
                     subst er
                     have h37 : ∀ W', Keeps (fun _ => False) w1 W' → Calls Try.prog 37 #[.agg #[.slice a m cap, .bool false], .agg #[.slice ra Q.length rc, .bool S]] W' fun e w' => e = .returned (.bool false) ∧ Keeps (fun _ => False) w w' := fun W' hk => by
                       refine (rsame_any W' (.slice a m cap) (.slice ra Q.length rc) ps Q false S (by rw [HM.out]; exact HR.out.keep (((HB.out.1.trans HI.out.2).trans H1.out.2).trans hk)) (hR1.keep hk) (by rw [HM.out]; exact hn)).mono ?_
                       rintro e w' ⟨rfl, hk'⟩
                       exact ⟨congrArg (fun b => Ending.returned (.bool b)) HBB.out.symm, (((HB.out.1.trans HI.out.2).trans H1.out.2).trans hk).trans hk'⟩
                     obtain ⟨x0, x1, _⟩ := cells2 ((H1.out.2.alloc (.cells #[.slice ra Q.length rc, .bool S] 25)).at (HI.out.2.at HB.out.2 id) id)
                     clear hR1 HBB)
                  | (go_at_call 37; refine (h37 _ ((Keeps.refl _ w1).alloc _)).mono ?_; clear h37; rintro e w2 ⟨rfl, hk2⟩))
                go_ret
                exact ⟨by rw [HX.out]; rfl, hk2⟩
          | true =>
            have HT2 : Hid (T ++ ⟨#[47]⟩ = mkB (rT ps true)) := by
              show _ = _
              rw [hT2]; unfold rT
              rw [if_pos rfl]; rw [show (⟨#[47]⟩ : ByteArray) = mkB [47] from rfl, mkB_cat]
            have h36 := rparse_any wr (T ++ ⟨#[47]⟩) (by rw [HT2.out, mkB_size]; have e : (rT ps true).length ≤ T.size + 1 := by { rw [hT2, mkB_size]; unfold rT; rw [List.length_append]; simp }; omega)
            rw [show (T ++ ⟨#[47]⟩).data.toList = rT ps true by rw [HT2.out, data_mkB]] at h36
            by_cases hy : prsE (rT ps true) = 0 ∧ ps = prsP (rT ps true) ∧ true = prsS (rT ps true)
            · have HX : Hid (txtF ps true = T ++ ⟨#[47]⟩) := by rw [HT2.out]; exact rtext_yes HE.out hy.1 hy.2.1 hy.2.2
              rw [hy.1, ← hy.2.1, ← hy.2.2] at h36
              clear hy hT2
              go_wp2_with (first
                | (go_at_call 36; refine h36.mono ?_; clear h36; rintro e w1 ⟨r, rfl, H1⟩
                   have hR1 := Row.of_own H1.out.1
                   rw [HM.out] at hR1
                   obtain ⟨ra, rc, er, _⟩ := id hR1
                   subst er
                   have h37 : ∀ W', Keeps (fun _ => False) w1 W' → Calls Try.prog 37 #[.agg #[.slice a m cap, .bool true], .agg #[.slice ra m rc, .bool true]] W' fun e w' => e = .returned (.bool true) ∧ Keeps (fun _ => False) w w' := fun W' hk => by
                     refine (rsame_any W' (.slice a m cap) (.slice ra m rc) ps ps true true (by rw [HM.out]; exact HR.out.keep (((HB.out.1.trans HI.out.2).trans H1.out.2).trans hk)) (by rw [HM.out]; exact hR1.keep hk) (by rw [HM.out]; exact hn)).mono ?_
                     rintro e w' ⟨rfl, hk'⟩
                     exact ⟨by simp, (((HB.out.1.trans HI.out.2).trans H1.out.2).trans hk).trans hk'⟩
                   obtain ⟨x0, x1, _⟩ := cells2 ((H1.out.2.alloc (.cells #[.slice ra m rc, .bool true] 25)).at (HI.out.2.at HB.out.2 id) id))
                | (go_at_call 37; refine (h37 _ ((Keeps.refl _ w1).alloc _)).mono ?_; clear h37; rintro e w2 ⟨rfl, hk2⟩))
              go_ret
              exact ⟨by rw [HX.out]; rfl, hk2⟩
            · have HX : Hid (txtF ps true = bz) := rtext_no HE.out hy
              have hyy : (¬ prsE (rT ps true) = 0) ∨ (prsE (rT ps true) = 0 ∧ decide (ps = prsP (rT ps true) ∧ true = prsS (rT ps true)) = false) := by
                by_cases h0 : prsE (rT ps true) = 0
                · exact Or.inr ⟨h0, decide_eq_false (fun h => hy ⟨h0, h⟩)⟩
                · exact Or.inl h0
              clear hy hT2
              generalize prsE (rT ps true) = E at h36 hyy
              generalize prsP (rT ps true) = Q at h36 hyy
              generalize prsS (rT ps true) = S at h36 hyy
              rcases hyy with hE | ⟨rfl, hQ⟩
              · have hE1 : (E != 0) = true := bne_iff_ne.2 hE
                have hE2 : (E == 0) = false := beq_eq_false_iff_ne.2 hE
                obtain ⟨bb, hbb⟩ : ∃ bb, bb = decide (ps = Q ∧ true = S) := ⟨_, rfl⟩
                have HBB := Hid.mk' hbb
                clear hbb
                go_wp2_with (first
                  | (go_at_call 36; refine h36.mono ?_; clear h36; rintro e w1 ⟨r, rfl, H1⟩
                     have hR1 := Row.of_own H1.out.1
                     obtain ⟨ra, rc, er, _⟩ := id hR1
                     subst er
                     have h37 : ∀ W', Keeps (fun _ => False) w1 W' → Calls Try.prog 37 #[.agg #[.slice a m cap, .bool true], .agg #[.slice ra Q.length rc, .bool S]] W' fun e w' => e = .returned (.bool bb) ∧ Keeps (fun _ => False) w w' := fun W' hk => by
                       refine (rsame_any W' (.slice a m cap) (.slice ra Q.length rc) ps Q true S (by rw [HM.out]; exact HR.out.keep (((HB.out.1.trans HI.out.2).trans H1.out.2).trans hk)) (hR1.keep hk) (by rw [HM.out]; exact hn)).mono ?_
                       rintro e w' ⟨rfl, hk'⟩
                       exact ⟨congrArg (fun b => Ending.returned (.bool b)) HBB.out.symm, (((HB.out.1.trans HI.out.2).trans H1.out.2).trans hk).trans hk'⟩
                     obtain ⟨x0, x1, _⟩ := cells2 ((H1.out.2.alloc (.cells #[.slice ra Q.length rc, .bool S] 25)).at (HI.out.2.at HB.out.2 id) id)
                     clear hR1 HBB)
                  | (go_at_call 37; refine (h37 _ ((Keeps.refl _ w1).alloc _)).mono ?_; clear h37; rintro e w2 ⟨rfl, hk2⟩))
                go_ret
                exact ⟨by rw [HX.out]; rfl, hk2⟩
              · have HBB := Hid.mk' hQ.symm
                clear hQ
                go_wp2_with (first
                  | (go_at_call 36; refine h36.mono ?_; clear h36; rintro e w1 ⟨r, rfl, H1⟩
                     have hR1 := Row.of_own H1.out.1
                     obtain ⟨ra, rc, er, _⟩ := id hR1
                     subst er
                     have h37 : ∀ W', Keeps (fun _ => False) w1 W' → Calls Try.prog 37 #[.agg #[.slice a m cap, .bool true], .agg #[.slice ra Q.length rc, .bool S]] W' fun e w' => e = .returned (.bool false) ∧ Keeps (fun _ => False) w w' := fun W' hk => by
                       refine (rsame_any W' (.slice a m cap) (.slice ra Q.length rc) ps Q true S (by rw [HM.out]; exact HR.out.keep (((HB.out.1.trans HI.out.2).trans H1.out.2).trans hk)) (hR1.keep hk) (by rw [HM.out]; exact hn)).mono ?_
                       rintro e w' ⟨rfl, hk'⟩
                       exact ⟨congrArg (fun b => Ending.returned (.bool b)) HBB.out.symm, (((HB.out.1.trans HI.out.2).trans H1.out.2).trans hk).trans hk'⟩
                     obtain ⟨x0, x1, _⟩ := cells2 ((H1.out.2.alloc (.cells #[.slice ra Q.length rc, .bool S] 25)).at (HI.out.2.at HB.out.2 id) id)
                     clear hR1 HBB)
                  | (go_at_call 37; refine (h37 _ ((Keeps.refl _ w1).alloc _)).mono ?_; clear h37; rintro e w2 ⟨rfl, hk2⟩))
                go_ret
                exact ⟨by rw [HX.out]; rfl, hk2⟩
end Go.Proofs.Ytfekgfimbkgkfab
