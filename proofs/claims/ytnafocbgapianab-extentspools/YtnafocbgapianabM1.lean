import Derived.WalkKit
namespace Go.Proofs.Ytnafocbgapianab
open Go

/-! Numbers of marks, and how many are set: math/bits.OnesCount64's five steps. -/

/-- The number whose bits are the first n marks, the lowest first. -/
def num (f : Nat → Bool) : Nat → Nat
  | 0 => 0
  | n + 1 => (f 0).toNat + 2 * num (fun j => f (j + 1)) n

/-- How many of the first n marks are set. -/
def cn (f : Nat → Bool) : Nat → Nat
  | 0 => 0
  | n + 1 => (f 0).toNat + cn (fun j => f (j + 1)) n

theorem toNat_le (b : Bool) : b.toNat ≤ 1 := by cases b <;> decide

theorem num_lt (f : Nat → Bool) (n : Nat) : num f n < 2 ^ n := by
  induction n generalizing f with
  | zero => simp [num]
  | succ n ih =>
    have h1 := ih (fun j => f (j + 1))
    have h2 := toNat_le (f 0)
    simp only [num, Nat.pow_succ]
    omega

theorem num_bit (f : Nat → Bool) (n i : Nat) : (num f n).testBit i = (decide (i < n) && f i) := by
  induction n generalizing f i with
  | zero => simp [num]
  | succ n ih =>
    cases i with
    | zero =>
      simp only [num, Nat.testBit_zero]
      cases f 0 <;> simp <;> omega
    | succ i =>
      have h2 := toNat_le (f 0)
      rw [Nat.testBit_succ]
      have : num f (n + 1) / 2 = num (fun j => f (j + 1)) n := by simp only [num]; omega
      rw [this, ih]
      simp

theorem cn_le (f : Nat → Bool) (n : Nat) : cn f n ≤ n := by
  induction n generalizing f with
  | zero => simp [cn]
  | succ n ih =>
    have h1 := ih (fun j => f (j + 1))
    have h2 := toNat_le (f 0)
    simp only [cn]
    omega

theorem cn_add (f : Nat → Bool) (a b : Nat) : cn f (a + b) = cn f a + cn (fun j => f (a + j)) b := by
  induction a generalizing f with
  | zero => simp [cn]
  | succ a ih =>
    have : a + 1 + b = (a + b) + 1 := by omega
    rw [this]
    simp only [cn, ih]
    have : (fun j => f (a + j + 1)) = (fun j => f (a + 1 + j)) := by
      funext j; congr 1; omega
    rw [this]
    omega

theorem cn_succ (f : Nat → Bool) (n : Nat) : cn f (n + 1) = cn f n + (f n).toNat := by
  rw [cn_add]; simp [cn]

theorem cn_congr {f g : Nat → Bool} {n : Nat} (h : ∀ i, i < n → f i = g i) : cn f n = cn g n := by
  induction n with
  | zero => rfl
  | succ n ih => rw [cn_succ, cn_succ, ih (fun i hi => h i (by omega)), h n (by omega)]

theorem and_byte (a y m M : Nat) (ha : a < 256) (hm : m < 256) : (a + 256 * y) &&& (m + 256 * M) = (a &&& m) + 256 * (y &&& M) := by
  have hab : a &&& m < 2 ^ 8 := Nat.and_lt_two_pow _ hm
  apply Nat.eq_of_testBit_eq
  intro i
  have e1 : a + 256 * y = 2 ^ 8 * y + a := by omega
  have e2 : m + 256 * M = 2 ^ 8 * M + m := by omega
  have e3 : (a &&& m) + 256 * (y &&& M) = 2 ^ 8 * (y &&& M) + (a &&& m) := by omega
  rw [e1, e2, e3, Nat.testBit_and, Nat.testBit_two_pow_mul_add _ (by omega), Nat.testBit_two_pow_mul_add _ (by omega), Nat.testBit_two_pow_mul_add _ hab]
  split
  · rw [Nat.testBit_and]
  · rw [Nat.testBit_and]

/-- A byte n times over. -/
def mask (m : Nat) : Nat → Nat
  | 0 => 0
  | n + 1 => m + 256 * mask m n

def g1 (a : Nat) : Nat := (a / 2 &&& 85) + (a &&& 85)
def g2 (a : Nat) : Nat := (a / 4 &&& 51) + (a &&& 51)
def g3 (a : Nat) : Nat := (a / 16 + a) &&& 15
def F1 (n x : Nat) : Nat := (x / 2 &&& mask 85 n) + (x &&& mask 85 n)
def F2 (n x : Nat) : Nat := (x / 4 &&& mask 51 n) + (x &&& mask 51 n)
def F3 (n x : Nat) : Nat := (x / 16 + x) &&& mask 15 n

theorem t1 : ∀ a : Fin 256, ∀ t : Fin 2, (a.val / 2 + 128 * t.val) &&& 85 = a.val / 2 &&& 85 := by decide +kernel
theorem t2 : ∀ a : Fin 256, ∀ t : Fin 4, (a.val / 4 + 64 * t.val) &&& 51 = a.val / 4 &&& 51 := by decide +kernel
theorem t3 : ∀ a : Fin 69, ∀ t : Fin 5, (a.val / 16 + a.val + 16 * t.val) &&& 15 = (a.val / 16 + a.val) &&& 15 := by decide +kernel
theorem b1 : ∀ a : Fin 256, g1 a.val < 256 := by decide +kernel
theorem b2 : ∀ a : Fin 256, g2 (g1 a.val) < 69 ∧ g2 (g1 a.val) % 16 < 5 := by decide +kernel
theorem b3 : ∀ b0 b1 b2 b3 b4 b5 b6 b7 : Bool, g3 (g2 (g1 (b0.toNat + 2 * (b1.toNat + 2 * (b2.toNat + 2 * (b3.toNat + 2 * (b4.toNat + 2 * (b5.toNat + 2 * (b6.toNat + 2 * b7.toNat))))))))) = b0.toNat + (b1.toNat + (b2.toNat + (b3.toNat + (b4.toNat + (b5.toNat + (b6.toNat + b7.toNat)))))) := by decide +kernel

theorem F1_step (n a y : Nat) (ha : a < 256) : F1 (n + 1) (a + 256 * y) = g1 a + 256 * F1 n y := by
  have h := t1 ⟨a, ha⟩ ⟨y % 2, by omega⟩
  simp only at h
  have e : (a + 256 * y) / 2 = (a / 2 + 128 * (y % 2)) + 256 * (y / 2) := by omega
  unfold F1 g1
  simp only [mask]
  rw [e, and_byte _ _ _ _ (by omega) (by omega), and_byte _ _ _ _ ha (by omega), h]
  omega

theorem F2_step (n a y : Nat) (ha : a < 256) : F2 (n + 1) (a + 256 * y) = g2 a + 256 * F2 n y := by
  have h := t2 ⟨a, ha⟩ ⟨y % 4, by omega⟩
  simp only at h
  have e : (a + 256 * y) / 4 = (a / 4 + 64 * (y % 4)) + 256 * (y / 4) := by omega
  unfold F2 g2
  simp only [mask]
  rw [e, and_byte _ _ _ _ (by omega) (by omega), and_byte _ _ _ _ ha (by omega), h]
  omega

theorem F3_step (n a y : Nat) (ha : a < 69) (hy : y % 16 < 5) : F3 (n + 1) (a + 256 * y) = g3 a + 256 * F3 n y := by
  have h := t3 ⟨a, ha⟩ ⟨y % 16, hy⟩
  simp only at h
  have e : (a + 256 * y) / 16 + (a + 256 * y) = (a / 16 + a + 16 * (y % 16)) + 256 * (y / 16 + y) := by omega
  unfold F3 g3
  simp only [mask]
  rw [e, and_byte _ _ _ _ (by omega) (by omega), h]

/-- The bytes' counts, a byte each. -/
def pops (f : Nat → Bool) : Nat → Nat
  | 0 => 0
  | n + 1 => cn f 8 + 256 * pops (fun j => f (8 + j)) n

theorem num8 (f : Nat → Bool) (n : Nat) : num f (8 + n) = num f 8 + 256 * num (fun j => f (8 + j)) n := by
  have e : 8 + n = n + 1 + 1 + 1 + 1 + 1 + 1 + 1 + 1 := by omega
  have e2 : (fun j => f (8 + j)) = (fun j => f (j + 1 + 1 + 1 + 1 + 1 + 1 + 1 + 1)) := by funext j; congr 1; omega
  rw [e, e2]
  simp only [num]
  omega

theorem F2_low (n : Nat) (f : Nat → Bool) : F2 n (F1 n (num f (8 * n))) % 16 < 5 := by
  cases n with
  | zero => simp [F2, mask]
  | succ n =>
    have h8 : num f 8 < 256 := num_lt f 8
    have h := b2 ⟨num f 8, h8⟩
    have hb := b1 ⟨num f 8, h8⟩
    simp only at h hb
    have e : 8 * (n + 1) = 8 + 8 * n := by omega
    rw [e, num8, F1_step _ _ _ h8, F2_step _ _ _ hb]
    omega

theorem steps (n : Nat) (f : Nat → Bool) : F3 n (F2 n (F1 n (num f (8 * n)))) = pops f n := by
  induction n generalizing f with
  | zero => simp [F3, mask, pops]
  | succ n ih =>
    have h8 : num f 8 < 256 := num_lt f 8
    have h := b2 ⟨num f 8, h8⟩
    have hb := b1 ⟨num f 8, h8⟩
    simp only at h hb
    have e : 8 * (n + 1) = 8 + 8 * n := by omega
    have h3 := b3 (f 0) (f 1) (f 2) (f 3) (f 4) (f 5) (f 6) (f 7)
    rw [e, num8, F1_step _ _ _ h8, F2_step _ _ _ hb, F3_step _ _ _ h.1 (F2_low n _), ih]
    simp only [pops]
    congr 1

/-- The whole of OnesCount64 over the naturals. -/
def ones64 (x : Nat) : Nat :=
  let y := F3 8 (F2 8 (F1 8 x))
  let a := y + y / 256
  let b := a + a / 65536
  let c := b + b / 4294967296
  c % 128

theorem ones64_num (f : Nat → Bool) : ones64 (num f 64) = cn f 64 ∧ F1 8 (num f 64) < 2 ^ 64 := by
  constructor
  · have h := steps 8 f
    simp only [Nat.reduceMul] at h
    unfold ones64
    simp only [h]
    have c0 := cn_le f 8
    have c1 := cn_le (fun j => f (8 + j)) 8
    have c2 := cn_le (fun j => f (8 + (8 + j))) 8
    have c3 := cn_le (fun j => f (8 + (8 + (8 + j)))) 8
    have c4 := cn_le (fun j => f (8 + (8 + (8 + (8 + j))))) 8
    have c5 := cn_le (fun j => f (8 + (8 + (8 + (8 + (8 + j)))))) 8
    have c6 := cn_le (fun j => f (8 + (8 + (8 + (8 + (8 + (8 + j))))))) 8
    have c7 := cn_le (fun j => f (8 + (8 + (8 + (8 + (8 + (8 + (8 + j)))))))) 8
    have e : cn f 64 = cn f 8 + (cn (fun j => f (8 + j)) 8 + (cn (fun j => f (8 + (8 + j))) 8 + (cn (fun j => f (8 + (8 + (8 + j)))) 8 + (cn (fun j => f (8 + (8 + (8 + (8 + j))))) 8 + (cn (fun j => f (8 + (8 + (8 + (8 + (8 + j)))))) 8 + (cn (fun j => f (8 + (8 + (8 + (8 + (8 + (8 + j))))))) 8 + cn (fun j => f (8 + (8 + (8 + (8 + (8 + (8 + (8 + j)))))))) 8)))))) := by
      rw [show (64 : Nat) = 8 + 56 from rfl, cn_add, show (56 : Nat) = 8 + 48 from rfl, cn_add, show (48 : Nat) = 8 + 40 from rfl, cn_add, show (40 : Nat) = 8 + 32 from rfl, cn_add, show (32 : Nat) = 8 + 24 from rfl, cn_add, show (24 : Nat) = 8 + 16 from rfl, cn_add, show (16 : Nat) = 8 + 8 from rfl, cn_add]
    simp only [pops]
    rw [e]
    generalize cn f 8 = p0 at *
    generalize cn (fun j => f (8 + j)) 8 = p1 at *
    generalize cn (fun j => f (8 + (8 + j))) 8 = p2 at *
    generalize cn (fun j => f (8 + (8 + (8 + j)))) 8 = p3 at *
    generalize cn (fun j => f (8 + (8 + (8 + (8 + j))))) 8 = p4 at *
    generalize cn (fun j => f (8 + (8 + (8 + (8 + (8 + j)))))) 8 = p5 at *
    generalize cn (fun j => f (8 + (8 + (8 + (8 + (8 + (8 + j))))))) 8 = p6 at *
    generalize cn (fun j => f (8 + (8 + (8 + (8 + (8 + (8 + (8 + j)))))))) 8 = p7 at *
    clear e h
    have d1 : (p0 + 256 * (p1 + 256 * (p2 + 256 * (p3 + 256 * (p4 + 256 * (p5 + 256 * (p6 + 256 * (p7 + 256 * 0)))))))) / 256 = p1 + 256 * (p2 + 256 * (p3 + 256 * (p4 + 256 * (p5 + 256 * (p6 + 256 * p7))))) := by
      rw [Nat.add_mul_div_left _ _ (by decide), Nat.div_eq_of_lt (by omega)]; omega
    rw [d1]
    have d2 : (p0 + 256 * (p1 + 256 * (p2 + 256 * (p3 + 256 * (p4 + 256 * (p5 + 256 * (p6 + 256 * (p7 + 256 * 0))))))) + (p1 + 256 * (p2 + 256 * (p3 + 256 * (p4 + 256 * (p5 + 256 * (p6 + 256 * p7))))))) / 65536 = (p2 + p3) + 256 * ((p3 + p4) + 256 * ((p4 + p5) + 256 * ((p5 + p6) + 256 * ((p6 + p7) + 256 * p7)))) := by
      have : (p0 + 256 * (p1 + 256 * (p2 + 256 * (p3 + 256 * (p4 + 256 * (p5 + 256 * (p6 + 256 * (p7 + 256 * 0))))))) + (p1 + 256 * (p2 + 256 * (p3 + 256 * (p4 + 256 * (p5 + 256 * (p6 + 256 * p7))))))) = ((p0 + p1) + 256 * (p1 + p2)) + 65536 * ((p2 + p3) + 256 * ((p3 + p4) + 256 * ((p4 + p5) + 256 * ((p5 + p6) + 256 * ((p6 + p7) + 256 * p7))))) := by omega
      rw [this, Nat.add_mul_div_left _ _ (by decide), Nat.div_eq_of_lt (by omega)]; omega
    rw [d2]
    have d3 : (p0 + 256 * (p1 + 256 * (p2 + 256 * (p3 + 256 * (p4 + 256 * (p5 + 256 * (p6 + 256 * (p7 + 256 * 0))))))) + (p1 + 256 * (p2 + 256 * (p3 + 256 * (p4 + 256 * (p5 + 256 * (p6 + 256 * p7)))))) + ((p2 + p3) + 256 * ((p3 + p4) + 256 * ((p4 + p5) + 256 * ((p5 + p6) + 256 * ((p6 + p7) + 256 * p7)))))) = ((p0 + p1 + p2 + p3) + 256 * ((p1 + p2 + p3 + p4) + 256 * ((p2 + p3 + p4 + p5) + 256 * (p3 + p4 + p5 + p6)))) + 4294967296 * ((p4 + p5 + p6 + p7) + 256 * ((p5 + p6 + p7) + 256 * ((p6 + p7) + 256 * p7))) := by omega
    rw [d3, Nat.add_mul_div_left _ _ (by decide), Nat.div_eq_of_lt (by omega)]
    clear d1 d2 d3
    have d4 : ((p0 + p1 + p2 + p3) + 256 * ((p1 + p2 + p3 + p4) + 256 * ((p2 + p3 + p4 + p5) + 256 * (p3 + p4 + p5 + p6)))) + 4294967296 * ((p4 + p5 + p6 + p7) + 256 * ((p5 + p6 + p7) + 256 * ((p6 + p7) + 256 * p7))) + (0 + ((p4 + p5 + p6 + p7) + 256 * ((p5 + p6 + p7) + 256 * ((p6 + p7) + 256 * p7)))) = (p0 + (p1 + (p2 + (p3 + (p4 + (p5 + (p6 + p7))))))) + 128 * (2 * ((p1 + p2 + p3 + p4) + 256 * ((p2 + p3 + p4 + p5) + 256 * (p3 + p4 + p5 + p6))) + 33554432 * ((p4 + p5 + p6 + p7) + 256 * ((p5 + p6 + p7) + 256 * ((p6 + p7) + 256 * p7))) + 2 * ((p5 + p6 + p7) + 256 * ((p6 + p7) + 256 * p7))) := by omega
    rw [d4, Nat.add_mul_mod_self_left, Nat.mod_eq_of_lt (by omega)]
  · have h1 : ∀ x, x &&& mask 85 8 ≤ mask 85 8 := fun x => Nat.and_le_right
    have h2 := h1 (num f 64)
    have h3 := h1 (num f 64 / 2)
    have hm : mask 85 8 = 6148914691236517205 := by decide
    rw [hm] at h2 h3
    unfold F1
    rw [hm]
    omega

end Go.Proofs.Ytnafocbgapianab
