import Derived.Test.YtfekgfimbkgkfabS2
namespace Go.Proofs.Ytfekgfimbkgkfab
open Go.RowKit Go.Maps

theorem RP.grown {w W W1 : World} {v : Value} {l : List Bs} (h : RP w W v l) (hg : W.grownBy W1 v.ownBlock) : W1.heap[w.heap.size + 1]? = some (.cells #[v, .bool false] 25) := by
  have hk1 : Keeps (fun k => w.heap.size + 2 ≤ k) W W1 := Keeps.of hg (fun k hk => Or.inl (h.row.lt k hk).1)
  exact hk1.at h.pb (by omega)
theorem mkB_empty (l : Bs) : (mkB l).toList.isEmpty = l.isEmpty := by rw [ByteArray.toList_eq]; rfl
theorem byte_ne (s : ByteArray) (k : Nat) (hk : k < s.size) (c : UInt8) : (((s[k].toNat : Nat) : Int) == (c.toNat : Int)) = decide (s.data.toList.getD k 0 = c) := by
  rw [byte_getD s k hk]
  generalize s.data.toList.getD k 0 = b
  by_cases h : b = c
  · subst h; simp
  · have h3 : ¬ b.toNat = c.toNat := fun e => h (UInt8.toNat_inj.1 e)
    rw [decide_eq_false h]
    exact beq_eq_false_iff_ne.2 (by omega)

set_option maxHeartbeats 4000000 in
set_option maxRecDepth 100000 in
theorem rparse_any (w : World) (s : ByteArray) (hs : s.size ≤ 9223372036854775807) :
    Calls Try.prog 36 #[.string s] w fun e w' => ∃ r, e = .returned (.tuple #[.agg #[r, .bool (prsS s.data.toList)], .int .i64 (prsE s.data.toList)]) ∧ Hid (w'.ownsRow w.heap.size 9 1 r (prsP s.data.toList).length (strs (prsP s.data.toList)) ∧ Keeps (fun _ => False) w w') := by
  have hsl := size_len s
  by_cases hL : 200 < s.size
  · have hE : prsE s.data.toList = 140 := by unfold prsE; rw [if_pos (by omega)]
    have hS : prsS s.data.toList = false := by unfold prsS; rw [hE]; rfl
    have hP : prsP s.data.toList = [] := by unfold prsP; rw [hE]; rfl
    have hL' : (200 : Int) < (s.size : Int) := by omega
    rw [hE, hS, hP]
    clear hsl hE hS hP
    go_enter Try.func36, Try.ntmps36
    go_wp2
    refine bodyPost_ret (v := .tuple #[.agg #[.slice none 0 0, .bool false], .int .i64 140]) (by simp [results, Try.results36, go_sem]) rfl ?_
    exact ⟨_, rfl, World.ownsRow_nil _ _ _ _, (Keeps.refl _ w).alloc _⟩
  · have hL' : ¬ (200 : Int) < (s.size : Int) := by omega
    by_cases h0 : s.size = 0
    · have e0 := size0 h0
      subst e0
      have hE : prsE (⟨#[]⟩ : ByteArray).data.toList = 141 := by decide +kernel
      have hS : prsS (⟨#[]⟩ : ByteArray).data.toList = false := by decide +kernel
      have hP : prsP (⟨#[]⟩ : ByteArray).data.toList = [] := by decide +kernel
      rw [hE, hS, hP]
      clear hsl hE hS hP
      go_enter Try.func36, Try.ntmps36
      go_wp2
      refine bodyPost_ret (v := .tuple #[.agg #[.slice none 0 0, .bool false], .int .i64 141]) (by simp [results, Try.results36, go_sem]) rfl ?_
      exact ⟨_, rfl, World.ownsRow_nil _ _ _ _, (Keeps.refl _ w).alloc _⟩
    · have hp0 : 0 < s.size := by omega
      have hne : s.toList.isEmpty = false := by
        cases hl : s.toList with
        | nil => exact absurd (empty_iff.1 hl) h0
        | cons _ _ => rfl
      have hg0 := byte_ne s 0 hp0 47
      have hhd : s.data.toList.head? = some (s.data.toList.getD 0 0) := by
        rw [size_len] at hp0
        cases hl : s.data.toList with
        | nil => rw [hl] at hp0; exact absurd hp0 (by simp)
        | cons a l => rfl
      by_cases hh : s.data.toList.getD 0 0 = 47
      · have hF : formed s.data.toList = s.data.toList.all (· != 0) := formed_of _ (by rw [hhd, hh])
        obtain ⟨i0, hi, hz0, hz1, hz2⟩ := info_parts info9
        rw [decide_eq_true hh] at hg0
        have hg1 : ((s[0].toNat : Int) == 47) = true := hg0
        have HF := Hid.mk' hF
        have HS := Hid.mk' hsl
        have hm : ((s.size : Int) - 1) = ((s.size - 1 : Nat) : Int) := by omega
        have hlt : s.size - 1 < s.size := by omega
        have HL : Hid ((s.data.toList.getLast? == some 47) = (((s[s.size - 1]'hlt).toNat : Int) == 47)) := by
          have h3 : s.data.toList.getLast? = some (s.data.toList.getD (s.size - 1) 0) := by
            rw [List.getLast?_eq_getElem?, ← hsl, List.getD_eq_getElem?_getD, List.getElem?_eq_getElem (by omega)]; rfl
          show _ = _
          rw [h3]
          have h4 := byte_ne s (s.size - 1) hlt 47
          have h5 : (((s[s.size - 1]'hlt).toNat : Int) == 47) = decide (s.data.toList.getD (s.size - 1) 0 = 47) := h4
          rw [h5]
          rfl
        have hR0 := (two_blocks w (.cells #[.slice none 0 0, .bool false] 25) (.cells #[.slice none 0 0, .bool false] 25)).1
        have HR0 := Hid.mk' (RP.start w)
        clear hF hsl hhd hh hg0 hR0
        go_enter Try.func36, Try.ntmps36
        go_wp2
        go_loopw [5, 6] (fun v4 v5 wr => ∃ k : Nat, k ≤ s.size + 1 ∧ v5 = .int .i64 k ∧ ∃ acc : Bs, v4 = .string (mkB acc) ∧ acc.length ≤ k ∧ Hid (s.size < k → acc = []) ∧ Hid (∃ v l, RI s.data.toList k l acc ∧ RP w wr v l)) (fun _ i _ => s.size + 1 - (intOf i).toNat)
        case atStart => exact ⟨0, Nat.zero_le _, rfl, [], rfl, Nat.le_refl _, fun _ => rfl, _, _, RI.start _, HR0.out⟩
        case round =>
          obtain ⟨k, hk, rfl, acc, rfl, hacc, HA, HI⟩ := hrel
          clear HR0
          obtain ⟨v, l, hI, hP⟩ := HI.out
          have hll := hI.2.2.2
          obtain ⟨va, vc, ev, hvc, _⟩ := Row.of_own hP.row
          subst ev
          obtain ⟨p0, p1, pf⟩ := hP.cells
          obtain ⟨r0, r1, rf⟩ := cells2 hP.rb
          have HI := Hid.mk' hI
          have HP := Hid.mk' hP
          clear hI hP
          by_cases h1 : k < s.size
          · have h1' : (k : Int) < (s.size : Int) := by omega
            have h1'' : (k : Int) ≤ (s.size : Int) := by omega
            have b0 := byte_ne s k h1 0
            have b47 := byte_ne s k h1 47
            by_cases hb0 : s.data.toList.getD k 0 = 0
            · rw [decide_eq_true hb0] at b0
              have b0' : ((s[k].toNat : Int) == 0) = true := b0
              have hF := HF.out
              rw [zero_all (by rw [← HS.out]; exact h1) hb0] at hF
              have hE : prsE s.data.toList = 141 := by unfold prsE; rw [if_neg (by rw [← HS.out]; omega), if_pos hF]
              have hS : prsS s.data.toList = false := by unfold prsS; rw [hE]; rfl
              have hP : prsP s.data.toList = [] := by unfold prsP; rw [hE]; rfl
              have f0 := rf 0
              have f1 := rf 1
              obtain ⟨d0, d1⟩ := set2c HP.out.rb (.slice none 0 0) (.bool false)
              obtain ⟨_, s2⟩ := set2 HP.out.rb (.slice none 0 0) (.bool false)
              have HE := Hid.mk' (And.intro hE (And.intro hS (And.intro hP (HP.out.kp.then s2 (fun k hk => Or.inr (by omega))))))
              clear b0 b47 hb0 hE hS hP hF s2
              go_wp2
              refine bodyPost_ret (v := .tuple #[.agg #[.slice none 0 0, .bool false], .int .i64 141]) (by simp [results, Try.results36, go_sem, d0, d1]) rfl ?_
              obtain ⟨hE, hS, hP, hK⟩ := HE.out
              rw [hE, hS, hP]
              exact ⟨_, rfl, World.ownsRow_nil _ _ _ _, hK⟩
            · rw [decide_eq_false hb0] at b0
              have b0' : ((s[k].toNat : Int) == 0) = false := b0
              by_cases hb : s.data.toList.getD k 0 = 47
              · rw [decide_eq_true hb] at b47
                have b47' : ((s[k].toNat : Int) == 47) = true := b47
                have HN := Hid.mk' (HI.out.slash (by rw [← HS.out]; exact h1) hb)
                clear b0 b47 hb hb0
                rcases Bool.eq_false_or_eq_true acc.isEmpty with hem | hem
                · have hem' : (mkB acc).toList.isEmpty = true := by rw [mkB_empty]; exact hem
                  have HE : Hid (fl l acc = l) := by unfold fl; rw [if_pos hem]; rfl
                  go_wp2
                  go_roundw
                  case rel => exact ⟨k + 1, by omega, by go_num, [], rfl, by simp, fun _ => rfl, _, _, HN.out, by rw [HE.out]; exact HP.out⟩
                  case measure => simp [intOf]; omega
                · have hem' : (mkB acc).toList.isEmpty = false := by rw [mkB_empty]; exact hem
                  go_wp2_with (first
                    | (at_builtin; go_must (refine wpList_append_own_at _ rfl _ _ 23 rfl (w.heap.size + 2) 9 i0 (.string ⟨#[]⟩) 1 16 Try.underlying23 hi hz0 hz1 hz2 rfl (by decide) _ l.length (strs (l.map mkB)) rfl (HP.out.row.alloc _) ⟨wr.heap.size, 0, none⟩ 1 1 [.string (mkB acc)] rfl rfl (cell_one_new _ _ _) (by simp [Value.oneCell']) (by unfold maxLen; omega) (by omega) (by rw [World.size_alloc]; have := HP.out.size; omega) ?_); intro v' w2 hown hgr _ _
                       obtain ⟨ra, rc, er, _⟩ := Row.of_own hown
                       subst er
                       have hPa := HP.out.keep ((Keeps.refl _ wr).alloc (.cells #[.string (mkB acc)] 9))
                       obtain ⟨_, _, gf⟩ := cells2 (hPa.grown hgr)
                       have g0 := gf 0
                       have HQ : Hid (RP w (w2.setCell ⟨w.heap.size + 1, 0, none⟩ (.slice ra (l.length + 1) rc)) (.slice ra (l.length + 1) rc) (fl l acc)) := by
                         refine hPa.put hgr ?_
                         rw [fl_strs l acc hem]
                         have e : (fl l acc).length = l.length + 1 := by unfold fl; rw [hem]; simp
                         rw [e]; exact hown
                       clear gf hPa hgr hown))
                  go_roundw
                  case rel => exact ⟨k + 1, by omega, by go_num, [], rfl, by simp, fun _ => rfl, _, _, HN.out, HQ.out⟩
                  case measure => simp [intOf]; omega
              · rw [decide_eq_false hb] at b47
                have b47' : ((s[k].toNat : Int) == 47) = false := b47
                have HN := Hid.mk' (HI.out.other (by rw [← HS.out]; exact h1) hb0 hb)
                have HC := Hid.mk' (mkB_snoc acc s k h1)
                have hsz : ¬ 9223372036854775807 < (mkB acc).size + (min (k + 1) s.size - k) := by rw [mkB_size]; omega
                clear b0 b47 hb hb0
                go_wp2
                go_roundw
                case rel => exact ⟨k + 1, by omega, by go_num, _, by rw [HC.out], by simp; omega, fun h => absurd h (by omega), _, _, HN.out, HP.out⟩
                case measure => simp [intOf]; omega
          · by_cases h2 : k = s.size
            · subst h2
              have h1' : ¬ ((s.size : Int) < (s.size : Int)) := by omega
              have h1'' : (s.size : Int) ≤ (s.size : Int) := by omega
              have HN : Hid (RI s.data.toList (s.size + 1) (fl l acc) []) := by
                have := HI.out
                rw [HS.out] at this ⊢
                exact this.fin
              rcases Bool.eq_false_or_eq_true acc.isEmpty with hem | hem
              · have hem' : (mkB acc).toList.isEmpty = true := by rw [mkB_empty]; exact hem
                have HE : Hid (fl l acc = l) := by unfold fl; rw [if_pos hem]; rfl
                go_wp2
                go_roundw
                case rel => exact ⟨s.size + 1, by omega, by go_num, [], rfl, by simp, fun _ => rfl, _, _, HN.out, by rw [HE.out]; exact HP.out⟩
                case measure => simp [intOf]
              · have hem' : (mkB acc).toList.isEmpty = false := by rw [mkB_empty]; exact hem
                go_wp2_with (first
                  | (at_builtin; go_must (refine wpList_append_own_at _ rfl _ _ 23 rfl (w.heap.size + 2) 9 i0 (.string ⟨#[]⟩) 1 16 Try.underlying23 hi hz0 hz1 hz2 rfl (by decide) _ l.length (strs (l.map mkB)) rfl (HP.out.row.alloc _) ⟨wr.heap.size, 0, none⟩ 1 1 [.string (mkB acc)] rfl rfl (cell_one_new _ _ _) (by simp [Value.oneCell']) (by unfold maxLen; omega) (by omega) (by rw [World.size_alloc]; have := HP.out.size; omega) ?_); intro v' w2 hown hgr _ _
                     obtain ⟨ra, rc, er, _⟩ := Row.of_own hown
                     subst er
                     have hPa := HP.out.keep ((Keeps.refl _ wr).alloc (.cells #[.string (mkB acc)] 9))
                     obtain ⟨_, _, gf⟩ := cells2 (hPa.grown hgr)
                     have g0 := gf 0
                     have HQ : Hid (RP w (w2.setCell ⟨w.heap.size + 1, 0, none⟩ (.slice ra (l.length + 1) rc)) (.slice ra (l.length + 1) rc) (fl l acc)) := by
                       refine hPa.put hgr ?_
                       rw [fl_strs l acc hem]
                       have e : (fl l acc).length = l.length + 1 := by unfold fl; rw [hem]; simp
                       rw [e]; exact hown
                     clear gf hPa hgr hown))
                go_roundw
                case rel => exact ⟨s.size + 1, by omega, by go_num, [], rfl, by simp, fun _ => rfl, _, _, HN.out, HQ.out⟩
                case measure => simp [intOf]
            · have ek : k = s.size + 1 := by omega
              subst ek
              have h1' : ¬ (((s.size + 1 : Nat) : Int) ≤ (s.size : Int)) := by omega
              have ha : acc = [] := HA.out (by omega)
              subst ha
              have hD : l = pts [] s.data.toList ∧ s.data.toList.all (· != 0) = true := by
                have := HI.out
                rw [HS.out] at this
                exact this.done
              have hD1 : l.map mkB = parts s.data.toList := by unfold parts; rw [← hD.1]
              have hE : prsE s.data.toList = if long (parts s.data.toList) = true then 142 else 0 := by
                unfold prsE; rw [if_neg (by rw [← HS.out]; omega), if_neg (by rw [HF.out, hD.2]; simp)]
              have HD := Hid.mk' (And.intro hD1 hE)
              have hlp : (parts s.data.toList).length = l.length := by rw [← hD1, List.length_map]
              have HR := Hid.mk' (Row.of_own HP.out.row)
              have HLp := Hid.mk' hlp
              rw [hD1] at HR
              clear hD hD1 hE hlp HI HA
              go_wp2
              go_loopw [7] (fun v7 wq => ∃ j : Nat, j ≤ l.length ∧ v7 = .int .i64 j ∧ wq = wr ∧ Hid (long ((parts s.data.toList).take j) = false)) (fun i _ => l.length - (intOf i).toNat)
              case atStart => exact ⟨0, Nat.zero_le _, rfl, rfl, rfl⟩
              case round =>
                obtain ⟨j, hj, rfl, rfl, HG⟩ := hrel
                by_cases h3 : j < l.length
                · have h3' : (j : Int) < (l.length : Int) := by omega
                  obtain ⟨b, o, cap', e, hb, hc⟩ := HR.out.pos (by omega)
                  cases e
                  have hjp : j < (parts s.data.toList).length := by rw [HLp.out]; exact h3
                  have c2 := hc j _ (strs_get hjp)
                  have HS2 := Hid.mk' (long_take (parts s.data.toList) j hjp HG.out)
                  have HT2 := Hid.mk' (long_hit (parts s.data.toList) j hjp)
                  generalize (parts s.data.toList).getD j bz = q at c2 HS2 HT2
                  clear hc hjp
                  by_cases h4 : 28 < q.size
                  · have h4' : (28 : Int) < (q.size : Int) := by omega
                    have hE := HD.out.2
                    rw [HT2.out h4, if_pos rfl] at hE
                    have hS : prsS s.data.toList = false := by unfold prsS; rw [hE]; rfl
                    have hP : prsP s.data.toList = [] := by unfold prsP; rw [hE]; rfl
                    have f0 := rf 0
                    have f1 := rf 1
                    obtain ⟨d0, d1⟩ := set2c HP.out.rb (.slice none 0 0) (.bool false)
                    obtain ⟨_, s2⟩ := set2 HP.out.rb (.slice none 0 0) (.bool false)
                    have HE := Hid.mk' (And.intro hE (And.intro hS (And.intro hP (HP.out.kp.then s2 (fun k hk => Or.inr (by omega))))))
                    clear hE hS hP s2
                    go_wp2
                    refine bodyPost_ret (v := .tuple #[.agg #[.slice none 0 0, .bool false], .int .i64 142]) (by simp [results, Try.results36, go_sem, d0, d1]) rfl ?_
                    obtain ⟨hE, hS, hP, hK⟩ := HE.out
                    rw [hE, hS, hP]
                    exact ⟨_, rfl, World.ownsRow_nil _ _ _ _, hK⟩
                  · have h4' : ¬ (28 : Int) < (q.size : Int) := by omega
                    have HN : Hid (long ((parts s.data.toList).take (j + 1)) = false) := HS2.out.trans (by simp [h4])
                    go_wp2
                    go_roundw
                    case rel => exact ⟨j + 1, by omega, by go_num, trivial, HN⟩
                    case measure => simp [intOf]; omega
                · have h3' : ¬ (j : Int) < (l.length : Int) := by omega
                  have hG := HG.out
                  rw [List.take_of_length_le (by rw [HLp.out]; omega)] at hG
                  have hE := HD.out.2
                  rw [hG, if_neg (by simp)] at hE
                  have hP : prsP s.data.toList = parts s.data.toList := by unfold prsP; rw [hE]; rfl
                  have hS : prsS s.data.toList = (decide (0 < l.length) && (((s[s.size - 1]'hlt).toNat : Int) == 47)) := by
                    unfold prsS; rw [hE, HL.out]
                    have : (!(parts s.data.toList).isEmpty) = decide (0 < l.length) := by
                      rw [← HLp.out]
                      cases parts s.data.toList <;> simp
                    rw [this]; rfl
                  obtain ⟨bb, hbb⟩ : ∃ bb, bb = (decide (0 < l.length) && (((s[s.size - 1]'hlt).toNat : Int) == 47)) := ⟨_, rfl⟩
                  have k1 : Keeps (fun k => k = w.heap.size + 1) wr (wr.setCell ⟨w.heap.size + 1, 1, none⟩ (.bool bb)) := Keeps.of (grownBy_setCell wr ⟨w.heap.size + 1, 1, none⟩ (.bool bb)) (by rintro k hk; cases hk; exact Or.inl rfl)
                  have b1 : (wr.setCell ⟨w.heap.size + 1, 1, none⟩ (.bool bb)).heap[w.heap.size + 1]? = some (.cells #[.slice va l.length vc, .bool bb] 25) := by
                    have := setCell_block (a := ⟨w.heap.size + 1, 1, none⟩) (v := .bool bb) HP.out.pb rfl
                    simpa using this
                  have b2 := k1.at HP.out.rb (by omega)
                  obtain ⟨x0, x1, _⟩ := cells2 b1
                  obtain ⟨_, _, yf⟩ := cells2 b2
                  have f0 := yf 0
                  have f1 := yf 1
                  have g1 := pf 1
                  obtain ⟨d0, d1⟩ := set2c b2 (.slice va l.length vc) (.bool bb)
                  obtain ⟨_, s2⟩ := set2 b2 (.slice va l.length vc) (.bool bb)
                  have hO := own_base (base' := w.heap.size) (own_keep (own_keep HP.out.row k1 (fun g hg hk => by have := (HP.out.row.lt g hg).1; omega)) s2 (fun g hg hk => by have := (HP.out.row.lt g hg).1; omega)) (by omega)
                  have hKK := (HP.out.kp.then k1 (fun k hk => Or.inr (by omega))).then s2 (fun k hk => Or.inr (by omega))
                  rw [HD.out.1] at hO
                  have HE := Hid.mk' (And.intro hE (And.intro (hS.trans hbb.symm) (And.intro hP (And.intro hO hKK))))
                  clear hE hS hP s2 hO hKK b1 b2 yf k1 hG
                  by_cases h5 : 0 < l.length
                  · have h5' : (0 : Int) < (l.length : Int) := by omega
                    rw [decide_eq_true h5, Bool.true_and] at hbb
                    have hbb' : (((s[s.size - 1]'hlt).toNat : Int) == 47) = bb := hbb.symm
                    clear hbb
                    go_wp2
                    refine bodyPost_ret (v := .tuple #[.agg #[.slice va l.length vc, .bool bb], .int .i64 0]) (by simp [results, Try.results36, go_sem, d0, d1]) rfl ?_
                    obtain ⟨hE, hS, hP, hO, hK⟩ := HE.out
                    rw [hE, hS, hP, HLp.out]
                    exact ⟨_, rfl, hO, hK⟩
                  · have h5' : ¬ (0 : Int) < (l.length : Int) := by omega
                    rw [decide_eq_false h5, Bool.false_and] at hbb
                    subst hbb
                    go_wp2
                    refine bodyPost_ret (v := .tuple #[.agg #[.slice va l.length vc, .bool false], .int .i64 0]) (by simp [results, Try.results36, go_sem, d0, d1]) rfl ?_
                    obtain ⟨hE, hS, hP, hO, hK⟩ := HE.out
                    rw [hE, hS, hP, HLp.out]
                    exact ⟨_, rfl, hO, hK⟩
      · have hF : formed s.data.toList = false := by
          unfold formed; rw [hhd]
          have : (some (s.data.toList.getD 0 0) == some 47) = false := by simpa using hh
          rw [this]; rfl
        have hE : prsE s.data.toList = 141 := by unfold prsE; rw [if_neg (by omega), if_pos hF]
        have hS : prsS s.data.toList = false := by unfold prsS; rw [hE]; rfl
        have hP : prsP s.data.toList = [] := by unfold prsP; rw [hE]; rfl
        rw [hE, hS, hP]
        rw [decide_eq_false hh] at hg0
        have hg1 : ((s[0].toNat : Int) == 47) = false := hg0
        clear hsl hE hS hP hF hhd hh hg0
        go_enter Try.func36, Try.ntmps36
        go_wp2
        refine bodyPost_ret (v := .tuple #[.agg #[.slice none 0 0, .bool false], .int .i64 141]) (by simp [results, Try.results36, go_sem]) rfl ?_
        exact ⟨_, rfl, World.ownsRow_nil _ _ _ _, (Keeps.refl _ w).alloc _⟩
end Go.Proofs.Ytfekgfimbkgkfab
