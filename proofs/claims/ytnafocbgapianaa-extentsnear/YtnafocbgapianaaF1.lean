import Derived.Test.YtnafocbgapianaaB7
import Derived.Test.YtnafocbgapianaaD1
namespace Go.Proofs.Ytnafocbgapianaa
open Go.RowKit

theorem pagesOf_len_take (l : List (Nat × Nat)) (i : Nat) (hi : i < l.length) : (pagesOf (l.take (i + 1))).length = (pagesOf (l.take i)).length + (l.getD i (0, 0)).2 := by
  rw [pagesOf_take l i hi, List.length_append, List.length_range']
theorem pagesOf_len_le (l : List (Nat × Nat)) (i : Nat) : (pagesOf (l.take i)).length ≤ (pagesOf l).length := by
  conv => rhs; rw [← List.take_append_drop i l, pagesOf_app, List.length_append]
  omega

set_option maxHeartbeats 2000000 in
theorem count_spans (w : World) (p : Option Addr) (cap : Nat) (l : List (Nat × Nat)) (h : SpIn w p (castL l)) (hl : l.length ≤ 1024) (hb : ∀ s ∈ l, 1 ≤ s.2 ∧ s.1 + s.2 ≤ 1024) (hp : (pagesOf l).length ≤ 100000) :
    Calls Try.prog 26 #[.slice p l.length cap] w fun e w' => e = .returned (.int .i64 ((pagesOf l).length : Nat)) ∧ w' = w := by
  have HP := Hid.mk' h
  have HBD := Hid.mk' hb
  clear h hb
  go_enter Try.func26, Try.ntmps26
  go_wp2
  go_loop [3, 4] (fun nv iv => ∃ i : Nat, i ≤ l.length ∧ nv = .int .i64 ((pagesOf (l.take i)).length : Nat) ∧ iv = .int .i64 i) (fun _ iv => l.length - (intOf iv).toNat)
  case atStart => exact ⟨0, by omega, rfl, rfl⟩
  case round =>
    obtain ⟨i, hi, rfl, rfl⟩ := hrel
    by_cases hlt : i < l.length
    · have hlt' : (i : Int) < (l.length : Int) := by omega
      have hi0 : (0 : Int) ≤ (i : Int) := by omega
      obtain ⟨b, o, rfl, hbl, hc⟩ := HP.out (by rw [castL_len]; omega)
      obtain ⟨e1, e2⟩ := hc i (by rw [castL_len]; exact hlt)
      rw [castL_get] at e1 e2
      have hbd := HBD.out _ (getD_mem (d := (0, 0)) hlt)
      have HNX := Hid.mk' (pagesOf_len_take l i hlt)
      have hle := pagesOf_len_le l i
      generalize l.getD i (0, 0) = s at *
      obtain ⟨f, c⟩ := s
      simp only at e1 e2 hbd HNX
      generalize (pagesOf (l.take i)).length = q at *
      have n1 : ¬ (c : Int) < 1 := by omega
      have n2 : ¬ (1024 : Int) < (c : Int) := by omega
      have n3 : ¬ (f : Int) < 0 := by omega
      have n4 : ¬ (1024 : Int) < (f : Int) := by omega
      have n5 : ¬ (1024 : Int) < (l.length : Int) := by omega
      have hsum : IntKind.i64.wrap ((q : Int) + (c : Int)) = (q : Int) + (c : Int) := i64_id (by omega) (by omega)
      clear hc
      go_wp2
      go_round
      case rel => exact ⟨i + 1, by omega, by rw [HNX.out]; go_num, by go_num⟩
      case measure => simp [intOf]; omega
    · have hlt' : ¬ (i : Int) < (l.length : Int) := by omega
      have HI := Hid.mk' (show i = l.length by omega)
      go_wp2
      go_ret
      refine ⟨ret_int ?_, rfl⟩
      rw [HI.out, List.take_length]

end Go.Proofs.Ytnafocbgapianaa
