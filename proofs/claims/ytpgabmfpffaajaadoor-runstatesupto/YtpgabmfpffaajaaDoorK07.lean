import Derived.Test.YtpgabmfpffaajaaDoorK06
namespace Go.Proofs.YtpgabmfpffaajaaDoor
open Go.RowKit Go.Maps
set_option maxRecDepth 100000

theorem bits_and : ∀ b : UInt8, bits .and .u8 (b.toNat : Int) 15 = (b.toNat : Int) % 16 := by
  apply byte_cases; decide +kernel

theorem dgB_at (n : Nat) (h : n < dgB.size) : (dgB[n]'h) = dg n := by rw [byte_getD dgB n h]; rfl
theorem dgB_int (a : Int) (n : Nat) (e : a.toNat = n) (h : a.toNat < dgB.size) : (dgB[a.toNat]'h) = dg n := by subst e; exact dgB_at _ h
theorem dg_cells (b : UInt8) (h1 : ((b.toNat : Int) / 16).toNat < dgB.size) (h2 : ((b.toNat : Int) % 16).toNat < dgB.size) :
    #[Value.int .u8 92, Value.int .u8 120, Value.int .u8 (((⟨#[48, 49, 50, 51, 52, 53, 54, 55, 56, 57, 97, 98, 99, 100, 101, 102]⟩ : ByteArray)[((b.toNat : Int) / 16).toNat]'h1).toNat : Int), Value.int .u8 (((⟨#[48, 49, 50, 51, 52, 53, 54, 55, 56, 57, 97, 98, 99, 100, 101, 102]⟩ : ByteArray)[((b.toNat : Int) % 16).toNat]'h2).toNat : Int)] = (vals [92, 120, dg (b.toNat / 16), dg (b.toNat % 16)]).toArray := by
  have e1 := dgB_int ((b.toNat : Int) / 16) (b.toNat / 16) (by omega) h1
  have e2 := dgB_int ((b.toNat : Int) % 16) (b.toNat % 16) (by omega) h2
  unfold dgB at e1 e2
  rw [e1, e2]; rfl

set_option maxHeartbeats 4000000 in
set_option maxRecDepth 100000 in
theorem quote_any (w : World) (s : ByteArray) (hs : s.size ≤ 2000000) :
    Calls Tryd.prog 26 #[.string s] w fun e w' => e = .returned (.string (mkB (quo s.data.toList))) ∧ Keeps (fun _ => False) w w' := by
  have HS := Hid.mk' (size_len s)
  have HO : Hid (OB w (w.alloc (.cells #[.int .u8 34] 5)) (.slice (some ⟨w.heap.size, 0, none⟩) 1 1) [34]) := OB.new w [34] 1 rfl (by decide)
  go_enter Tryd.func26, Tryd.ntmps26
  go_wp2
  go_loopw [3, 9] (fun v i wr => ∃ k : Nat, k ≤ s.size ∧ i = .int .i64 k ∧ Hid (OB w wr v (34 :: (s.data.toList.take k).flatMap esc))) (fun _ i _ => s.size - (intOf i).toNat)
  case atStart => exact ⟨0, Nat.zero_le _, rfl, HO.out⟩
  case round =>
    obtain ⟨k, hk, rfl, HR⟩ := hrel
    clear HO
    have HL : Hid ((34 :: (s.data.toList.take k).flatMap esc).length ≤ 4 * k + 1) := by
      have := flat_len (s.data.toList.take k)
      have h2 : (s.data.toList.take k).length ≤ k := by simp; omega
      show _ ≤ _
      rw [List.length_cons]; omega
    by_cases h1 : k < s.size
    · have h1' : (k : Int) < (s.size : Int) := by omega
      have HT : Hid (∀ m, esc s[k] = m → 34 :: (s.data.toList.take (k + 1)).flatMap esc = (34 :: (s.data.toList.take k).flatMap esc) ++ m) := by
        intro m hm
        rw [flat_take (by rw [← HS.out]; exact h1), ← byte_getD s k h1, hm]; rfl
      by_cases c34 : s[k] = 34
      · have HN := Hid.mk' (HT.out [92, 34] (by rw [c34]; rfl))
        have k34 := by_yes (k := 34) 34 rfl c34
        have ev := toNat_of (k := 34) 34 rfl c34
        clear c34
        go_wp2_with (first
          | (at_builtin; go_must (refine wpList_app rfl _ _ rfl w wr u3 _ (by rfl) HR.out [92, 34] 2 rfl _ (by rfl) (by rfl) (by have := HL.out; simp only [List.length_cons, List.length_nil] at *; omega) ?_); intro v' W' hO; have HO := Hid.mk' hO; clear hO))
        go_roundw
        case rel => exact ⟨k + 1, by omega, by go_num, by rw [HN.out]; exact HO.out⟩
        case measure => simp [intOf]; omega
      by_cases c92 : s[k] = 92
      · have HN := Hid.mk' (HT.out [92, 92] (by rw [c92]; rfl))
        have k34 := by_no (k := 34) 34 rfl c34
        have k92 := by_yes (k := 92) 92 rfl c92
        have ev := toNat_of (k := 92) 92 rfl c92
        clear c34 c92
        go_wp2_with (first
          | (at_builtin; go_must (refine wpList_app rfl _ _ rfl w wr u3 _ (by rfl) HR.out [92, 92] 2 rfl _ (by rfl) (by rfl) (by have := HL.out; simp only [List.length_cons, List.length_nil] at *; omega) ?_); intro v' W' hO; have HO := Hid.mk' hO; clear hO))
        go_roundw
        case rel => exact ⟨k + 1, by omega, by go_num, by rw [HN.out]; exact HO.out⟩
        case measure => simp [intOf]; omega
      by_cases c10 : s[k] = 10
      · have HN := Hid.mk' (HT.out [92, 110] (by rw [c10]; rfl))
        have k34 := by_no (k := 34) 34 rfl c34
        have k92 := by_no (k := 92) 92 rfl c92
        have k10 := by_yes (k := 10) 10 rfl c10
        clear c34 c92 c10
        go_wp2_with (first
          | (at_builtin; go_must (refine wpList_app rfl _ _ rfl w wr u3 _ (by rfl) HR.out [92, 110] 2 rfl _ (by rfl) (by rfl) (by have := HL.out; simp only [List.length_cons, List.length_nil] at *; omega) ?_); intro v' W' hO; have HO := Hid.mk' hO; clear hO))
        go_roundw
        case rel => exact ⟨k + 1, by omega, by go_num, by rw [HN.out]; exact HO.out⟩
        case measure => simp [intOf]; omega
      have k34 := by_no (k := 34) 34 rfl c34
      have k92 := by_no (k := 92) 92 rfl c92
      have k10 := by_no (k := 10) 10 rfl c10
      have h10 := printable_any wr s[k]
      cases hp : prt s[k] with
      | true =>
        rw [hp] at h10
        have HN := Hid.mk' (HT.out [s[k]] (by unfold esc; rw [if_neg c34, if_neg c92, if_neg c10, if_pos hp]))
        clear c34 c92 c10 hp
        go_wp2_with (first
          | (go_at_call 35; refine h10.mono ?_; clear h10; rintro e w1 ⟨rfl, hw1⟩; subst w1)
          | (at_builtin; go_must (refine wpList_app rfl _ _ rfl w wr u3 _ (by rfl) HR.out [s[k]] 1 rfl _ (by rfl) (by rfl) (by have := HL.out; simp only [List.length_cons, List.length_nil] at *; omega) ?_); intro v' W' hO; have HO := Hid.mk' hO; clear hO))
        go_roundw
        case rel => exact ⟨k + 1, by omega, by go_num, by rw [HN.out]; exact HO.out⟩
        case measure => simp [intOf]; omega
      | false =>
        rw [hp] at h10
        have HN := Hid.mk' (HT.out [92, 120, dg (s[k].toNat / 16), dg (s[k].toNat % 16)] (by unfold esc; rw [if_neg c34, if_neg c92, if_neg c10, if_neg (by rw [hp]; decide)]))
        clear c34 c92 c10 hp
        go_wp2_with (first
          | (go_at_call 35; refine h10.mono ?_; clear h10; rintro e w1 ⟨rfl, hw1⟩; subst w1))
        have hb := s[k].toNat_lt
        have b0 : 0 ≤ (s[k].toNat : Int) / 16 := by omega
        have b1 : ((s[k].toNat : Int) / 16) < 16 := by omega
        have ha : bits .and .u8 (s[k].toNat : Int) 15 = (s[k].toNat : Int) % 16 := bits_and s[k]
        have a0 : 0 ≤ (s[k].toNat : Int) % 16 := by omega
        have b2 : ((s[k].toNat : Int) % 16) < 16 := by omega
        go_region_law (refine step_app rfl _ _ rfl w wr.drew u3 _ (by rfl) (HR.out.keep (Keeps.drewN _ wr 1)) [92, 120, dg (s[k].toNat / 16), dg (s[k].toNat % 16)] 4 rfl (by simp) _ (dg_cells _ _ _) (by rfl) (by have := HL.out; simp only [List.length_cons, List.length_nil] at *; omega) ?_; intro v' W' hO; have HO := Hid.mk' hO; clear hO)
        all_goals go_wp2
        all_goals go_roundw
        case rel => exact ⟨k + 1, by omega, by go_num, by rw [HN.out]; exact HO.out⟩
        case measure => simp [intOf]; omega
        case rel => exact ⟨k + 1, by omega, by go_num, by rw [HN.out]; exact HO.out⟩
        case measure => simp [intOf]; omega
    · have h1' : ¬ (k : Int) < (s.size : Int) := by omega
      have HF : Hid (OB w wr u3 (34 :: s.data.toList.flatMap esc)) := by
        have := HR.out
        rw [List.take_of_length_le (by rw [← HS.out]; omega)] at this
        exact this
      go_wp2_with (first
        | (at_builtin; go_must (refine wpList_app rfl _ _ rfl w wr u3 _ (by rfl) HF.out [34] 1 rfl _ (by rfl) (by rfl) (by have := flat_len s.data.toList; rw [← HS.out] at this; simp only [List.length_cons, List.length_nil]; omega) ?_); intro v' W' hO; have hcv := conv_row _ _ _ hO.row; have HO := Hid.mk' hO; clear hO))
      go_ret
      exact ⟨rfl, HO.out.2⟩
end Go.Proofs.YtpgabmfpffaajaaDoor
