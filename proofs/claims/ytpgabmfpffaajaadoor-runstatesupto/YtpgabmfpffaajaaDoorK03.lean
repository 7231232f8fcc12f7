import Derived.Test.YtpgabmfpffaajaaDoorK02
namespace Go.Proofs.YtpgabmfpffaajaaDoor
open Go.RowKit Go.Maps
set_option maxRecDepth 100000

def dgB : ByteArray := ⟨#[48, 49, 50, 51, 52, 53, 54, 55, 56, 57, 97, 98, 99, 100, 101, 102]⟩
theorem bits_or : ∀ a : Nat, a < 16 → ∀ b : Nat, b < 16 → bits .or .i64 ((a : Int) * 16) (b : Int) % 256 = ((16 * a + b : Nat) : Int) := by decide +kernel
theorem ofNat_small {n : Nat} (h : n < 256) : (UInt8.ofNat n).toNat = n := by simp; omega
theorem hxI_cases (b : UInt8) : (hx b < 16 ∧ hxI b = (hx b : Int)) ∨ (¬ hx b < 16 ∧ hxI b = -1) := by
  unfold hxI; split
  · rename_i h; exact Or.inl ⟨h, rfl⟩
  · rename_i h; exact Or.inr ⟨h, rfl⟩

theorem mnt_cons (b : UInt8) (r : Bs) : mnt (b :: r) = if b = 34 then (34, 1) else if b = 92 then (92, 1) else if b = 110 then (10, 1) else if b = 120 then xd r else (0, 0) := rfl
theorem by_yes {b : UInt8} {k : Int} (c : UInt8) (hk : (c.toNat : Int) = k) (h : b = c) : ((b.toNat : Int) == k) = true := by
  rw [← hk, h]; exact beq_iff_eq.2 rfl
theorem by_no {b : UInt8} {k : Int} (c : UInt8) (hk : (c.toNat : Int) = k) (h : ¬ b = c) : ((b.toNat : Int) == k) = false := by
  rw [← hk, beq_byte]; exact beq_eq_false_iff_ne.2 h
theorem toNat_of {b : UInt8} {k : Int} (c : UInt8) (hk : (c.toNat : Int) = k) (h : b = c) : (b.toNat : Int) = k := by rw [h, hk]
theorem ret_two {a b c d : Int} (h : a = b) (h2 : c = d) : Ending.returned (.tuple #[.int .u8 a, .int .i64 c]) = .returned (.tuple #[.int .u8 b, .int .i64 d]) := by rw [h, h2]

end Go.Proofs.YtpgabmfpffaajaaDoor
