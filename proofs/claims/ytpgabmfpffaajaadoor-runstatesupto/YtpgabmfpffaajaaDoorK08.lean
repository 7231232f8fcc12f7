import Derived.Test.YtpgabmfpffaajaaDoorK06
namespace Go.Proofs.YtpgabmfpffaajaaDoor
open Go.RowKit Go.Maps
set_option maxRecDepth 100000

set_option maxHeartbeats 1000000 in
set_option maxRecDepth 100000 in
theorem esc_any (w : World) (b : UInt8) : Calls Tryd.prog 30 #[.int .u8 (b.toNat : Int)] w fun e w' => e = .returned (.string (mkB (esc b))) ∧ Keeps (fun _ => False) w w' := by
  have h14 := plain_any w b
  cases hp : pln b with
  | true =>
    rw [hp] at h14
    have e : esc b = [b] := by
      unfold pln at hp
      simp at hp
      unfold esc
      rw [if_neg hp.1.2, if_neg hp.2]
      split
      · rename_i h; subst h; exact absurd hp.1.1 (by decide)
      · rw [if_pos hp.1.1]
    rw [e]
    have hcv : (convert 57 9 (.slice (some ⟨w.heap.size, 0, none⟩) 1 1)).run Tryd.prog (w.alloc (.cells #[.int .u8 (b.toNat : Int)] 5)) = .ok (.string (mkB [b])) (w.alloc (.cells #[.int .u8 (b.toNat : Int)] 5)) := conv_new w [b] 1 rfl
    clear e hp
    go_enter Tryd.func30, Tryd.ntmps30
    go_wp2_with (first | (go_at_call 38; refine h14.mono ?_; clear h14; rintro e w1 ⟨rfl, hw1⟩; subst w1))
    go_ret
    exact ⟨rfl, (Keeps.refl _ w).alloc _⟩
  | false =>
    rw [hp] at h14
    by_cases c34 : b = 34
    · subst c34
      go_enter Tryd.func30, Tryd.ntmps30
      go_wp2_with (first | (go_at_call 38; refine h14.mono ?_; clear h14; rintro e w1 ⟨rfl, hw1⟩; subst w1))
      go_ret
      exact ⟨rfl, Keeps.refl _ w⟩
    · by_cases c92 : b = 92
      · subst c92
        go_enter Tryd.func30, Tryd.ntmps30
        go_wp2_with (first | (go_at_call 38; refine h14.mono ?_; clear h14; rintro e w1 ⟨rfl, hw1⟩; subst w1))
        go_ret
        exact ⟨rfl, Keeps.refl _ w⟩
      · by_cases c10 : b = 10
        · subst c10
          go_enter Tryd.func30, Tryd.ntmps30
          go_wp2_with (first | (go_at_call 38; refine h14.mono ?_; clear h14; rintro e w1 ⟨rfl, hw1⟩; subst w1))
          go_ret
          exact ⟨rfl, Keeps.refl _ w⟩
        · have e : esc b = [92, 120, dg (b.toNat / 16), dg (b.toNat % 16)] := by
            unfold esc
            rw [if_neg c34, if_neg c92, if_neg c10, if_neg]
            intro h
            unfold pln at hp
            simp [h, c34, c92] at hp
          rw [e]
          have k34 := by_no (k := 34) 34 rfl c34
          have k92 := by_no (k := 92) 92 rfl c92
          have k10 := by_no (k := 10) 10 rfl c10
          have hb := b.toNat_lt
          have h15 := digit_int w (b.toNat / 16) (by omega) ((b.toNat : Int) / 16) (by omega)
          have h15' := digit_int w (b.toNat % 16) (by omega) ((b.toNat : Int) % 16) (by omega)
          have hcv : (convert 57 9 (.slice (some ⟨w.heap.size, 0, none⟩) 4 4)).run Tryd.prog (w.alloc (.cells #[.int .u8 92, .int .u8 120, .int .u8 ((dg (b.toNat / 16)).toNat : Int), .int .u8 ((dg (b.toNat % 16)).toNat : Int)] 5)) = .ok (.string (mkB [92, 120, dg (b.toNat / 16), dg (b.toNat % 16)])) (w.alloc (.cells #[.int .u8 92, .int .u8 120, .int .u8 ((dg (b.toNat / 16)).toNat : Int), .int .u8 ((dg (b.toNat % 16)).toNat : Int)] 5)) := conv_new w [92, 120, dg (b.toNat / 16), dg (b.toNat % 16)] 4 rfl
          clear e hp c34 c92 c10
          go_enter Tryd.func30, Tryd.ntmps30
          go_wp2_with (first
            | (go_at_call 38; refine h14.mono ?_; clear h14; rintro e w1 ⟨rfl, hw1⟩; subst w1)
            | (go_at_call 39; refine h15.mono ?_; clear h15; rintro e w1 ⟨rfl, hw1⟩; subst w1)
            | (go_at_call 39; refine h15'.mono ?_; clear h15'; rintro e w1 ⟨rfl, hw1⟩; subst w1))
          go_ret
          exact ⟨rfl, (Keeps.refl _ w).alloc _⟩
set_option maxHeartbeats 2000000 in
set_option maxRecDepth 100000 in
theorem rquote_any (w : World) (s : ByteArray) (hs : s.size ≤ 2000000) :
    Calls Tryd.prog 24 #[.string s] w fun e w' => e = .returned (.string (mkB (quo s.data.toList))) ∧ Keeps (fun _ => False) w w' := by
  have HS := Hid.mk' (size_len s)
  have HO : Hid (OB w (w.alloc (.cells #[.int .u8 34] 5)) (.slice (some ⟨w.heap.size, 0, none⟩) 1 1) [34]) := OB.new w [34] 1 rfl (by decide)
  go_enter Tryd.func24, Tryd.ntmps24
  go_wp2
  go_loopw [3, 4] (fun v i wr => ∃ k : Nat, k ≤ s.size ∧ i = .int .i64 k ∧ Hid (OB w wr v (34 :: (s.data.toList.take k).flatMap esc))) (fun _ i _ => s.size - (intOf i).toNat)
  case atStart => exact ⟨0, Nat.zero_le _, rfl, HO.out⟩
  case round =>
    obtain ⟨k, hk, rfl, HR⟩ := hrel
    clear HO
    have HL : Hid ((34 :: (s.data.toList.take k).flatMap esc).length ≤ 4 * k + 1) := by
      have := flat_len (s.data.toList.take k)
      have h2 : (s.data.toList.take k).length ≤ k := by simp; omega
      show _ ≤ _
      rw [List.length_cons]; omega
    by_cases h1 : k < s.size
    · have h1' : (k : Int) < (s.size : Int) := by omega
      have h11 := esc_any wr s[k]
      have HT : Hid ((s.data.toList.take (k + 1)).flatMap esc = (s.data.toList.take k).flatMap esc ++ esc s[k]) := by
        show _ = _
        rw [flat_take (by rw [← HS.out]; exact h1), byte_getD s k h1]
      have HE := Hid.mk' (esc_len s[k]).2
      go_wp2_with (first | (go_at_call 30; refine h11.mono ?_; clear h11; rintro e w1 ⟨rfl, hk1⟩))
      have HR1 := Hid.mk' (HR.out.keep hk1)
      generalize hx : esc s[k] = x at *
      have hx4 : (mkB x).size ≤ 4 := by rw [mkB_size]; exact HE.out
      clear hk1 HR
      go_loopw [3, 6] (fun v i wq => ∃ j : Nat, j ≤ (mkB x).size ∧ i = .int .i64 j ∧ Hid (OB w wq v ((34 :: (s.data.toList.take k).flatMap esc) ++ x.take j))) (fun _ i _ => (mkB x).size - (intOf i).toNat)
      case atStart => exact ⟨0, Nat.zero_le _, rfl, by rw [List.take_zero, List.append_nil]; exact HR1.out⟩
      case round =>
        obtain ⟨j, hj, rfl, HQ⟩ := hrel
        by_cases h2 : j < (mkB x).size
        · have h2' : (j : Int) < ((mkB x).size : Int) := by omega
          have HN : Hid (x.take (j + 1) = x.take j ++ [(mkB x)[j]]) := by
            show _ = _
            rw [take_getD 0 (by rw [← mkB_size]; exact h2), byte_getD (mkB x) j h2]
            rfl
          go_wp2_with (first
            | (at_builtin; go_must (refine wpList_app rfl _ _ rfl w wr u3 _ (by rfl) HQ.out [(mkB x)[j]] 1 rfl _ (by rfl) (by rfl) (by have := HL.out; have := HE.out; simp only [List.length_append, List.length_take, List.length_singleton] at *; omega) ?_); intro v' W' hO))
          have HO := Hid.mk' hO
          clear hO
          go_roundw
          case rel => exact ⟨j + 1, by omega, by go_num, by rw [HN.out, ← List.append_assoc]; exact HO.out⟩
          case measure => simp [intOf]; omega
        · have h2' : ¬ (j : Int) < ((mkB x).size : Int) := by omega
          have HN : Hid (OB w wr u3 (34 :: (s.data.toList.take (k + 1)).flatMap esc)) := by
            have := HQ.out
            rw [List.take_of_length_le (l := x) (by rw [← mkB_size]; omega), List.cons_append, ← HT.out] at this
            exact this
          go_wp2
          go_roundw
          case rel => exact ⟨k + 1, by omega, by go_num, HN.out⟩
          case measure => simp [intOf]; omega
    · have h1' : ¬ (k : Int) < (s.size : Int) := by omega
      have HF : Hid (OB w wr u3 (34 :: s.data.toList.flatMap esc)) := by
        have := HR.out
        rw [List.take_of_length_le (by rw [← HS.out]; omega)] at this
        exact this
      go_wp2_with (first
        | (at_builtin; go_must (refine wpList_app rfl _ _ rfl w wr u3 _ (by rfl) HF.out [34] 1 rfl _ (by rfl) (by rfl) (by have := flat_len s.data.toList; rw [← HS.out] at this; simp only [List.length_cons, List.length_nil]; omega) ?_); intro v' W' hO; have hcv := conv_row _ _ _ hO.row; have HO := Hid.mk' hO; clear hO))
      go_ret
      exact ⟨rfl, HO.out.2⟩
end Go.Proofs.YtpgabmfpffaajaaDoor
