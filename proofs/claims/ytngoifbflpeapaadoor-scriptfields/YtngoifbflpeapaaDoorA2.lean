import Derived.Test.YtngoifbflpeapaaDoorA1
namespace Go.Proofs.YtngoifbflpeapaaDoor
open Go.RowKit Go.Maps
set_option maxRecDepth 100000

theorem printable_any (w : World) (b : UInt8) : Calls Tryd.prog 51 #[.int .u8 (b.toNat : Int)] w fun e w' => e = .returned (.bool (prt b)) ∧ w' = w := by
  unfold prt
  by_cases h1 : 32 ≤ b.toNat
  · have h1' : (32 : Int) ≤ (b.toNat : Int) := by omega
    by_cases h2 : b.toNat ≤ 126
    · have h2' : (b.toNat : Int) ≤ 126 := by omega
      rw [decide_eq_true h1, decide_eq_true h2]
      clear h1 h2
      go_enter Tryd.func51, Tryd.ntmps51
      go_wp2
      go_ret
      exact ⟨ret_bool rfl, rfl⟩
    · have h2' : ¬ (b.toNat : Int) ≤ 126 := by omega
      rw [decide_eq_true h1, decide_eq_false h2]
      clear h1 h2
      go_enter Tryd.func51, Tryd.ntmps51
      go_wp2
      go_ret
      exact ⟨ret_bool rfl, rfl⟩
  · have h1' : ¬ (32 : Int) ≤ (b.toNat : Int) := by omega
    rw [decide_eq_false h1]
    clear h1
    go_enter Tryd.func51, Tryd.ntmps51
    go_wp2
    go_ret
    exact ⟨ret_bool rfl, rfl⟩

def pln (b : UInt8) : Bool := prt b && (b != 34) && (b != 92)
theorem beq_byte (b c : UInt8) : ((b.toNat : Int) == (c.toNat : Int)) = (b == c) := by
  by_cases h : b = c
  · subst h; simp
  · have h3 : ¬ b.toNat = c.toNat := fun e => h (UInt8.toNat_inj.1 e)
    rw [beq_eq_false_iff_ne.2 h]
    exact beq_eq_false_iff_ne.2 (by omega)
theorem ret_u8 {a b : Int} (h : a = b) : Ending.returned (.int .u8 a) = .returned (.int .u8 b) := by rw [h]
theorem hx_hit {b : UInt8} {n : Nat} (h : n < 16) (e : dg n = b) : hxI b = (n : Int) := by
  have := hx_of_dg n h
  rw [e] at this
  unfold hxI; rw [this, if_pos h]
theorem hx_miss {b : UInt8} (h : ∀ m, m < 16 → dg m ≠ b) : hxI b = -1 := by
  unfold hxI
  split
  · rename_i hh; exact absurd (dg_hx b hh) (h _ hh)
  · rfl

theorem index_dgs : ∀ b : UInt8, Lib.indexByte dgs b = hxI b := by
  apply byte_cases; decide +kernel
end Go.Proofs.YtngoifbflpeapaaDoor

