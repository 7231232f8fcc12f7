import Derived.Test.YtpgabmfpffaajaaDoorK01
namespace Go.Proofs.YtpgabmfpffaajaaDoor
open Go.RowKit Go.Maps
set_option maxRecDepth 100000

theorem printable_any (w : World) (b : UInt8) : Calls Tryd.prog 35 #[.int .u8 (b.toNat : Int)] w fun e w' => e = .returned (.bool (prt b)) ∧ w' = w := by
  unfold prt
  by_cases h1 : 32 ≤ b.toNat
  · have h1' : (32 : Int) ≤ (b.toNat : Int) := by omega
    by_cases h2 : b.toNat ≤ 126
    · have h2' : (b.toNat : Int) ≤ 126 := by omega
      rw [decide_eq_true h1, decide_eq_true h2]
      clear h1 h2
      go_enter Tryd.func35, Tryd.ntmps35
      go_wp2
      go_ret
      exact ⟨ret_bool rfl, rfl⟩
    · have h2' : ¬ (b.toNat : Int) ≤ 126 := by omega
      rw [decide_eq_true h1, decide_eq_false h2]
      clear h1 h2
      go_enter Tryd.func35, Tryd.ntmps35
      go_wp2
      go_ret
      exact ⟨ret_bool rfl, rfl⟩
  · have h1' : ¬ (32 : Int) ≤ (b.toNat : Int) := by omega
    rw [decide_eq_false h1]
    clear h1
    go_enter Tryd.func35, Tryd.ntmps35
    go_wp2
    go_ret
    exact ⟨ret_bool rfl, rfl⟩

def pln (b : UInt8) : Bool := prt b && (b != 34) && (b != 92)
theorem beq_byte (b c : UInt8) : ((b.toNat : Int) == (c.toNat : Int)) = (b == c) := by
  by_cases h : b = c
  · subst h; simp
  · have h3 : ¬ b.toNat = c.toNat := fun e => h (UInt8.toNat_inj.1 e)
    rw [beq_eq_false_iff_ne.2 h]
    exact beq_eq_false_iff_ne.2 (by omega)
theorem plain_any (w : World) (b : UInt8) : Calls Tryd.prog 38 #[.int .u8 (b.toNat : Int)] w fun e w' => e = .returned (.bool (pln b)) ∧ w' = w := by
  unfold pln prt
  have e34 := beq_byte b 34
  have e92 := beq_byte b 92
  have f34 : ((34 : UInt8).toNat : Int) = 34 := rfl
  have f92 : ((92 : UInt8).toNat : Int) = 92 := rfl
  rw [f34] at e34
  rw [f92] at e92
  by_cases h1 : 32 ≤ b.toNat
  · have h1' : (32 : Int) ≤ (b.toNat : Int) := by omega
    by_cases h2 : b.toNat ≤ 126
    · have h2' : (b.toNat : Int) ≤ 126 := by omega
      rw [decide_eq_true h1, decide_eq_true h2]
      show Calls Tryd.prog 38 #[.int .u8 (b.toNat : Int)] w fun e w' => e = .returned (.bool (true && true && !(b == 34) && !(b == 92))) ∧ w' = w
      rw [← e34, ← e92]
      clear e34 e92 h1 h2
      rcases Bool.eq_false_or_eq_true ((b.toNat : Int) == 34) with h3 | h3
      all_goals rcases Bool.eq_false_or_eq_true ((b.toNat : Int) == 92) with h4 | h4
      all_goals
        rw [h3, h4]
        have h3' : ((b.toNat : Int) != 34) = !((b.toNat : Int) == 34) := rfl
        have h4' : ((b.toNat : Int) != 92) = !((b.toNat : Int) == 92) := rfl
        rw [h3] at h3'
        rw [h4] at h4'
        simp only [Bool.not_true, Bool.not_false] at h3' h4'
        go_enter Tryd.func38, Tryd.ntmps38
        go_wp2
        go_ret
        exact ⟨ret_bool rfl, rfl⟩
    · have h2' : ¬ (b.toNat : Int) ≤ 126 := by omega
      rw [decide_eq_true h1, decide_eq_false h2]
      clear e34 e92 h1 h2
      go_enter Tryd.func38, Tryd.ntmps38
      go_wp2
      go_ret
      exact ⟨ret_bool rfl, rfl⟩
  · have h1' : ¬ (32 : Int) ≤ (b.toNat : Int) := by omega
    rw [decide_eq_false h1]
    clear e34 e92 h1
    go_enter Tryd.func38, Tryd.ntmps38
    go_wp2
    go_ret
    exact ⟨ret_bool rfl, rfl⟩

theorem ret_u8 {a b : Int} (h : a = b) : Ending.returned (.int .u8 a) = .returned (.int .u8 b) := by rw [h]
theorem digit_any (w : World) (n : Nat) (hn : n < 16) : Calls Tryd.prog 39 #[.int .i64 (n : Int)] w fun e w' => e = .returned (.int .u8 ((dg n).toNat : Int)) ∧ w' = w := by
  by_cases h : n < 10
  · have h' : (n : Int) < 10 := by omega
    have e := dg_low n h
    have e2 : ((dg n).toNat : Int) = 48 + (n : Int) := by omega
    rw [e2]
    clear e e2
    go_enter Tryd.func39, Tryd.ntmps39
    go_wp2
    go_ret
    exact ⟨ret_u8 rfl, rfl⟩
  · have h' : ¬ (n : Int) < 10 := by omega
    have e := dg_high n hn (by omega)
    have e2 : ((dg n).toNat : Int) = 97 + (n : Int) - 10 := by omega
    rw [e2]
    clear e e2
    go_enter Tryd.func39, Tryd.ntmps39
    go_wp2
    go_ret
    exact ⟨ret_u8 rfl, rfl⟩

theorem hx_hit {b : UInt8} {n : Nat} (h : n < 16) (e : dg n = b) : hxI b = (n : Int) := by
  have := hx_of_dg n h
  rw [e] at this
  unfold hxI; rw [this, if_pos h]
theorem hx_miss {b : UInt8} (h : ∀ m, m < 16 → dg m ≠ b) : hxI b = -1 := by
  unfold hxI
  split
  · rename_i hh; exact absurd (dg_hx b hh) (h _ hh)
  · rfl

theorem index_dgs : ∀ b : UInt8, Lib.indexByte dgs b = hxI b := by
  apply byte_cases; decide +kernel
end Go.Proofs.YtpgabmfpffaajaaDoor
