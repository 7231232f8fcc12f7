import Derived.Test.YtngoifbflpeapacGreatDoorA9
namespace Go.Proofs.YtngoifbflpeapacGreatDoor
open Go.RowKit Go.Maps
set_option maxRecDepth 100000

theorem ne_isEmpty {s : ByteArray} (h0 : ¬ s.size = 0) : s.toList.isEmpty = false := by
  cases hl : s.toList with
  | nil => exact absurd (empty_iff.1 hl) h0
  | cons _ _ => rfl

set_option maxHeartbeats 4000000 in
set_option maxRecDepth 100000 in
theorem unquote_any (w : World) (s : ByteArray) (hs : s.size ≤ 1000000) :
    Calls Tryz.prog 59 #[.string s] w fun e w' => e = .returned (.tuple #[.string (uqT s.data.toList), .int .i64 (uqN s.data.toList), .int .i64 (uqE s.data.toList)]) ∧ Keeps (fun _ => False) w w' := by
  by_cases h0 : s.size = 0
  · have e0 := size0 h0
    subst e0
    go_enter Tryz.func59, Tryz.ntmps59
    go_wp2
    go_step3
    go_wp2
    try rw [Exit.noGoto_ret]
    refine bodyPost_ret (v := .tuple #[.string ⟨#[]⟩, .int .i64 0, .int .i64 194]) (by simp [results, Tryz.results59, go_sem]) rfl ?_
    exact ⟨rfl, Keeps.refl _ _⟩
  · have hp0 : 0 < s.size := by omega
    have j0 : (0 : Int) < (s.size : Int) := by omega
    have hne := ne_isEmpty h0
    have HS := Hid.mk' (size_len s)
    have hb0 := byte_getD s 0 hp0
    by_cases c0 : s[0] = 34
    · have HU := Hid.mk' (uq_start (by rw [← HS.out]; exact hp0) (by rw [← hb0]; exact c0))
      have k0 := by_nn (k := 34) 34 rfl c0
      have k0' := by_yes (k := 34) 34 rfl c0
      have HO := Hid.mk' (OB.nil w)
      clear c0 hb0
      go_enter Tryz.func59, Tryz.ntmps59
      go_wp2
      go_step3
      go_wp2
      go_step3
      go_wp2
      go_loopw [5, 6] (fun v i wr => ∃ (k : Nat) (acc : Bs), k ≤ s.size ∧ 1 ≤ k ∧ i = .int .i64 k ∧ Hid (UI s.data.toList k acc ∧ OB w wr v acc)) (fun _ i _ => s.size - (intOf i).toNat)
      case atStart => exact ⟨1, [], hp0, Nat.le_refl _, rfl, HU.out, HO.out⟩
      case round =>
        obtain ⟨k, acc, hk, hk1, rfl, HR⟩ := hrel
        clear HU HO k0 k0'
        by_cases h1 : k < s.size
        · have h1' : (k : Int) < (s.size : Int) := by omega
          have hg := byte_getD s k h1
          have HK : Hid (k < s.data.toList.length) := by show _ < _; rw [← HS.out]; exact h1
          have HA : Hid (acc.length ≤ 1000000) := by have := HR.out.1.2.2.1; show _ ≤ _; omega
          by_cases c34 : s[k] = 34
          · have HE := Hid.mk' (uqT_some (HR.out.1.fin HK.out (by rw [← hg]; exact c34)))
            have k34 := by_yes (k := 34) 34 rfl c34
            have hcv := conv_row wr u5 acc HR.out.2.row
            clear c34 hg
            go_wp2
            try rw [Exit.noGoto_ret]
            refine bodyPost_ret (v := .tuple #[.string (mkB acc), .int .i64 ((k : Int) + 1), .int .i64 0]) (by simp [results, Tryz.results59, go_sem]) rfl ?_
            obtain ⟨e1, e2, e3⟩ := HE.out
            rw [e1, e2, e3]
            exact ⟨rfl, HR.out.2.2⟩
          · have k34 := by_no (k := 34) 34 rfl c34
            by_cases c92 : s[k] = 92
            · have k92 := by_yes (k := 92) 92 rfl c92
              have h12 := escaped_any wr (s.extract (k + 1) s.size) (by rw [mkB_extr, mkB_size]; simp; omega)
              rw [extr_rest] at h12
              by_cases hm : (mnt (s.data.toList.drop (k + 1))).2 = 0
              · have HE := Hid.mk' (uqT_none (HR.out.1.bad HK.out (by rw [← hg]; exact c92) hm))
                rw [hm] at h12
                clear c34 c92 hg
                go_wp2_with (first | (go_at_call 85; refine h12.mono ?_; clear h12; rintro e w1 ⟨rfl, hk1⟩))
                try rw [Exit.noGoto_ret]
                refine bodyPost_ret (v := .tuple #[.string ⟨#[]⟩, .int .i64 0, .int .i64 194]) (by simp [results, Tryz.results59, go_sem]) rfl ?_
                obtain ⟨e1, e2, e3⟩ := HE.out
                rw [e1, e2, e3]
                exact ⟨rfl, HR.out.2.2.trans hk1⟩
              · have HN := Hid.mk' (HR.out.1.esc HK.out (by rw [← hg]; exact c92) hm)
                have hle := mnt_le (s.data.toList.drop (k + 1))
                rw [List.length_drop, ← HS.out] at hle
                generalize hmm : mnt (s.data.toList.drop (k + 1)) = mm at *
                obtain ⟨mb, mn⟩ := mm
                have hm' : ¬ mn = 0 := hm
                have hm1 : ((mn : Int) == 0) = false := beq_eq_false_iff_ne.2 (by omega)
                have hle' : mn ≤ s.size - (k + 1) := hle
                have HN' : Hid (UI s.data.toList (k + 1 + mn) (acc ++ [mb])) := HN.out
                clear c34 c92 hg hmm HN hle hm
                go_wp2_with (first
                  | (go_at_call 85; refine h12.mono ?_; clear h12; rintro e w1 ⟨rfl, hk1⟩; have HW := Hid.mk' (HR.out.2.keep hk1); clear hk1)
                  | (at_builtin; go_must (refine wpList_app rfl _ _ rfl w w1 u5 _ (by rfl) HW.out [mb] 1 rfl _ (by rfl) (by rfl) (by have := HA.out; simp only [List.length_cons, List.length_nil] at *; omega) ?_); intro v' W' hO; have HO := Hid.mk' hO; clear hO))
                go_roundw
                case rel => exact ⟨k + 1 + mn, acc ++ [mb], by omega, by omega, by go_num, HN'.out, HO.out⟩
                case measure => simp [intOf]; omega
            · have k92 := by_no (k := 92) 92 rfl c92
              have h10 := printable_any wr s[k]
              cases hp : prt s[k] with
              | true =>
                have HN := Hid.mk' (HR.out.1.prt HK.out (by rw [← hg]; exact c34) (by rw [← hg]; exact c92) (by rw [← hg]; exact hp))
                rw [← hg] at HN
                rw [hp] at h10
                clear c34 c92 hg hp
                go_wp2_with (first
                  | (go_at_call 86; refine h10.mono ?_; clear h10; rintro e w1 ⟨rfl, hw1⟩; subst w1)
                  | (at_builtin; go_must (refine wpList_app rfl _ _ rfl w wr u5 _ (by rfl) HR.out.2 [s[k]] 1 rfl _ (by rfl) (by rfl) (by have := HA.out; simp only [List.length_cons, List.length_nil] at *; omega) ?_); intro v' W' hO; have HO := Hid.mk' hO; clear hO))
                go_roundw
                case rel => exact ⟨k + 1, acc ++ [s[k]], by omega, by omega, by go_num, HN.out, HO.out⟩
                case measure => simp [intOf]; omega
              | false =>
                have HE := Hid.mk' (uqT_none (HR.out.1.not HK.out (by rw [← hg]; exact c34) (by rw [← hg]; exact c92) (by rw [← hg]; exact hp)))
                rw [hp] at h10
                clear c34 c92 hg hp
                go_wp2_with (first
                  | (go_at_call 86; refine h10.mono ?_; clear h10; rintro e w1 ⟨rfl, hw1⟩; subst w1))
                try rw [Exit.noGoto_ret]
                refine bodyPost_ret (v := .tuple #[.string ⟨#[]⟩, .int .i64 0, .int .i64 194]) (by simp [results, Tryz.results59, go_sem]) rfl ?_
                obtain ⟨e1, e2, e3⟩ := HE.out
                rw [e1, e2, e3]
                exact ⟨rfl, HR.out.2.2⟩
        · have HE := Hid.mk' (uqT_none (HR.out.1.out (by rw [← HS.out]; exact h1)))
          have h1' : ¬ (k : Int) < (s.size : Int) := by omega
          go_wp2
          try rw [Exit.noGoto_ret]
          refine bodyPost_ret (v := .tuple #[.string ⟨#[]⟩, .int .i64 0, .int .i64 194]) (by simp [results, Tryz.results59, go_sem]) rfl ?_
          obtain ⟨e1, e2, e3⟩ := HE.out
          rw [e1, e2, e3]
          exact ⟨rfl, HR.out.2.2⟩
    · obtain ⟨e1, e2, e3⟩ := uqT_none (uq_bad (by rw [← HS.out]; exact hp0) (by rw [← hb0]; exact c0))
      rw [e1, e2, e3]
      have k0 := by_ne (k := 34) 34 rfl c0
      clear c0 hb0 e1 e2 e3
      go_enter Tryz.func59, Tryz.ntmps59
      go_wp2
      go_step3
      go_wp2
      try rw [Exit.noGoto_ret]
      refine bodyPost_ret (v := .tuple #[.string ⟨#[]⟩, .int .i64 0, .int .i64 194]) (by simp [results, Tryz.results59, go_sem]) rfl ?_
      exact ⟨rfl, Keeps.refl _ _⟩
end Go.Proofs.YtngoifbflpeapacGreatDoor

