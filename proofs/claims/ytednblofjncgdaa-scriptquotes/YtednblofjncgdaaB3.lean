import Derived.Test.YtednblofjncgdaaB2
namespace Go.Proofs.Ytednblofjncgdaa
open Go.RowKit Go.Maps

set_option maxHeartbeats 4000000 in
set_option maxRecDepth 100000 in
theorem quotes_walk (w : World) (s : ByteArray) : Calls Try.prog 3 #[.string s] w fun e w' => e = .returned (.bool true) ∧ Keeps (fun _ => False) w w' := by
  by_cases h : 100000 < s.size
  · have h' : (100000 : Int) < (s.size : Int) := by omega
    go_enter Try.func3, Try.ntmps3
    go_wp2
    go_ret
    exact ⟨rfl, Keeps.refl _ _⟩
  · have h' : ¬ (100000 : Int) < (s.size : Int) := by omega
    have h6 := fun w => quote_any w s (by omega)
    have h7 := fun w => rquote_any w s (by omega)
    go_enter Try.func3, Try.ntmps3
    go_wp2_with (first
      | (go_at_call 7; refine (h7 _).mono ?_; clear h7; rintro e w2 ⟨rfl, hk2⟩; have HK2 := Hid.mk' hk2; clear hk2)
      | (go_at_call 6; refine (h6 _).mono ?_; clear h6; rintro e w1 ⟨rfl, hk1⟩; have HK1 := Hid.mk' hk1; clear hk1))
    go_ret
    exact ⟨ret_bool (by simp), HK1.out.trans HK2.out⟩

set_option maxHeartbeats 4000000 in
set_option maxRecDepth 100000 in
theorem unquotes_walk (w : World) (s : ByteArray) : Calls Try.prog 5 #[.string s] w fun e w' => e = .returned (.bool true) ∧ Keeps (fun _ => False) w w' := by
  by_cases h : 100000 < s.size
  · have h' : (100000 : Int) < (s.size : Int) := by omega
    go_enter Try.func5, Try.ntmps5
    go_wp2
    go_ret
    exact ⟨rfl, Keeps.refl _ _⟩
  · have h' : ¬ (100000 : Int) < (s.size : Int) := by omega
    have h8 := fun w => unquote_any w s (by omega)
    have h9 := fun w => runquote_any w s (by omega)
    generalize uqT s.data.toList = T at *
    generalize uqN s.data.toList = N at *
    generalize uqE s.data.toList = E at *
    go_enter Try.func5, Try.ntmps5
    go_wp2_with (first
      | (go_at_call 9; refine (h9 _).mono ?_; clear h9; rintro e w2 ⟨rfl, hk2⟩; have HK2 := Hid.mk' hk2; clear hk2)
      | (go_at_call 8; refine (h8 _).mono ?_; clear h8; rintro e w1 ⟨rfl, hk1⟩; have HK1 := Hid.mk' hk1; clear hk1))
    go_ret
    exact ⟨ret_bool (by simp), HK1.out.trans HK2.out⟩

theorem prt_bounds {b : UInt8} (h : prt b = true) : 32 ≤ b.toNat ∧ b.toNat ≤ 126 := by simpa [prt] using h
theorem data_app (a b : ByteArray) : (a ++ b).data.toList = a.data.toList ++ b.data.toList := by simp

set_option maxHeartbeats 4000000 in
set_option maxRecDepth 100000 in
theorem quoted_walk (w : World) (s t : ByteArray) (hs : s.size ≤ 281474976710656) (ht : t.size ≤ 281474976710656) : Calls Try.prog 4 #[.string s, .string t] w fun e w' => e = .returned (.bool true) ∧ Keeps (fun _ => False) w w' := by
  by_cases h : 100000 < s.size + t.size
  · have h' : (100000 : Int) < (s.size : Int) + (t.size : Int) := by omega
    go_enter Try.func4, Try.ntmps4
    go_wp2
    go_ret
    exact ⟨rfl, Keeps.refl _ _⟩
  · have h' : ¬ (100000 : Int) < (s.size : Int) + (t.size : Int) := by omega
    have h6 := fun w => quote_any w s (by omega)
    have hl1 := quo_len s.data.toList
    have hl2 := quo_le s.data.toList
    rw [← size_len, ← mkB_size] at hl1 hl2
    have HP := Hid.mk' (quo_prt s.data.toList)
    have q1 := uqT_some (uq_quo s.data.toList t.data.toList)
    have q2 := uqT_none (uq_cut s.data.toList)
    have q3 := uqT_none (uq_other (quo s.data.toList))
    rw [← mkB_size] at q1 q2
    rw [mkB_data] at q1
    have hdq := data_mkB (quo s.data.toList)
    generalize hQ : mkB (quo s.data.toList) = Q at *
    rw [← hdq] at q1 q2 q3 HP
    have h81 := fun w => unquote_any w (Q ++ t) (by rw [ByteArray.size_append]; omega)
    have h82 := fun w => unquote_any w (Q.extract 0 (Q.size - 1)) (by rw [mkB_extr, mkB_size]; simp; omega)
    have h83 := fun w => unquote_any w ((⟨#[32]⟩ : ByteArray) ++ Q) (by rw [ByteArray.size_append]; have : (⟨#[32]⟩ : ByteArray).size = 1 := rfl; omega)
    rw [data_app, q1.1, q1.2.1, q1.2.2] at h81
    rw [extr, List.drop_zero, Nat.sub_zero, q2.1, q2.2.1, q2.2.2] at h82
    rw [data_app, show (⟨#[32]⟩ : ByteArray).data.toList ++ Q.data.toList = 32 :: Q.data.toList from rfl, q3.1, q3.2.1, q3.2.2] at h83
    rw [← hQ] at h6
    rw [hQ] at h6
    have ad1 := fun W => run_string_add_sum (P := Try.prog) W Q t (by omega)
    have ad2 := fun W => run_string_add_sum (P := Try.prog) W ⟨#[32]⟩ Q (by have : (⟨#[32]⟩ : ByteArray).size = 1 := rfl; omega)
    have hl1' : ¬ (Q.size : Int) < (s.size : Int) + 2 := by omega
    clear q1 q2 q3 hdq hQ
    go_enter Try.func4, Try.ntmps4
    go_wp2_with (first
      | (go_at_call 8; refine (h81 _).mono ?_; clear h81; rintro e w2 ⟨rfl, hk2⟩; have HK2 := Hid.mk' hk2; clear hk2)
      | (go_at_call 6; refine (h6 _).mono ?_; clear h6; rintro e w1 ⟨rfl, hk1⟩; have HK1 := Hid.mk' hk1; clear hk1))
    go_loopw [9] (fun i wr => ∃ k : Nat, k ≤ Q.size ∧ i = .int .i64 k ∧ wr = w2) (fun i _ => Q.size - (intOf i).toNat)
    case atStart => exact ⟨0, Nat.zero_le _, rfl, rfl⟩
    case round =>
      obtain ⟨k, hk, rfl, rfl⟩ := hrel
      by_cases h1 : k < Q.size
      · have h1' : (k : Int) < (Q.size : Int) := by omega
        have hp := prt_bounds (List.all_eq_true.1 HP.out (Q.data.toList.getD k 0) (getD_mem 0 (by rw [← size_len]; exact h1)))
        rw [← byte_getD Q k h1] at hp
        have p1 : ¬ (Q[k].toNat : Int) < 32 := by omega
        have p2 : ¬ (126 : Int) < (Q[k].toNat : Int) := by omega
        clear hp
        go_wp2
        go_roundw
        case rel => exact ⟨k + 1, by omega, by go_num, trivial⟩
        case measure => simp [intOf]; omega
      · have h1' : ¬ (k : Int) < (Q.size : Int) := by omega
        go_wp2_with (first
          | (go_at_call 8; refine (h82 _).mono ?_; clear h82; rintro e w3 ⟨rfl, hk3⟩; have HK3 := Hid.mk' hk3; clear hk3)
          | (go_at_call 8; refine (h83 _).mono ?_; clear h83; rintro e w4 ⟨rfl, hk4⟩; have HK4 := Hid.mk' hk4; clear hk4))
        go_ret
        exact ⟨rfl, ((HK1.out.trans HK2.out).trans HK3.out).trans HK4.out⟩
end Go.Proofs.Ytednblofjncgdaa
