import Derived.WalkKit
namespace Go.Proofs.YtpgabmfpffaajaaDoor

/-! Quoted texts, by themselves. -/
abbrev Bs := List UInt8
def mkB (l : Bs) : ByteArray := ⟨l.toArray⟩
theorem mkB_data (s : ByteArray) : mkB s.data.toList = s := by obtain ⟨⟨l⟩⟩ := s; rfl
theorem data_mkB (l : Bs) : (mkB l).data.toList = l := rfl
theorem mkB_inj {a b : Bs} (h : mkB a = mkB b) : a = b := by have := congrArg (fun s : ByteArray => s.data.toList) h; exact this
theorem mkB_size (l : Bs) : (mkB l).size = l.length := by simp [mkB, ByteArray.size]
theorem mkB_app (a b : Bs) : mkB a ++ mkB b = mkB (a ++ b) := by
  rw [← mkB_data (mkB a ++ mkB b)]
  congr 1

def dgs : Bs := [48, 49, 50, 51, 52, 53, 54, 55, 56, 57, 97, 98, 99, 100, 101, 102]
def dg (n : Nat) : UInt8 := dgs.getD n 0
/-- A byte that stands for itself, if it isn't a quote's own. -/
def prt (b : UInt8) : Bool := decide (32 ≤ b.toNat) && decide (b.toNat ≤ 126)
def esc (b : UInt8) : Bs := if b = 34 then [92, 34] else if b = 92 then [92, 92] else if b = 10 then [92, 110] else if prt b = true then [b] else [92, 120, dg (b.toNat / 16), dg (b.toNat % 16)]
def quo (l : Bs) : Bs := 34 :: (l.flatMap esc ++ [34])
/-- A digit's value; 16: it is none. -/
def hx (b : UInt8) : Nat := dgs.findIdx (· == b)
/-- The byte of two digits. -/
def xd : Bs → UInt8 × Nat
  | h :: l :: _ => if hx h < 16 ∧ hx l < 16 then (UInt8.ofNat (16 * hx h + hx l), 3) else (0, 0)
  | _ => (0, 0)
/-- The byte that is meant behind a backslash, and how many bytes tell it; 0: none. -/
def mnt : Bs → UInt8 × Nat
  | [] => (0, 0)
  | b :: r => if b = 34 then (34, 1) else if b = 92 then (92, 1) else if b = 110 then (10, 1) else if b = 120 then xd r else (0, 0)
/-- What stands at a place within quotes. -/
def unt (b : UInt8) (r : Bs) : UInt8 × Nat := if (prt b && (b != 34) && (b != 92)) = true then (b, 1) else if b = 92 then (if (mnt r).2 = 0 then (0, 0) else ((mnt r).1, (mnt r).2 + 1)) else (0, 0)
def hxI (b : UInt8) : Int := if hx b < 16 then (hx b : Int) else -1
def unq (acc : Bs) (k : Nat) (t : Bs) : Option (Bs × Nat) :=
  match t with
  | [] => none
  | b :: r => if b = 34 then some (acc, k + 1) else if b = 92 then (if (mnt r).2 = 0 then none else unq (acc ++ [(mnt r).1]) (k + 1 + (mnt r).2) (r.drop (mnt r).2)) else if prt b = true then unq (acc ++ [b]) (k + 1) r else none
termination_by t.length
decreasing_by
  · simp only [List.length_drop, List.length_cons]; omega
  · simp
def uq (t : Bs) : Option (Bs × Nat) := match t with | [] => none | b :: r => if b = 34 then unq [] 1 r else none
def uqT (t : Bs) : ByteArray := match uq t with | some (a, _) => mkB a | none => ⟨#[]⟩
def uqN (t : Bs) : Int := match uq t with | some (_, n) => n | none => 0
def uqE (t : Bs) : Int := match uq t with | some _ => 0 | none => 194

theorem unq_nil (acc : Bs) (k : Nat) : unq acc k [] = none := by rw [unq]
theorem unq_end (acc : Bs) (k : Nat) (r : Bs) : unq acc k (34 :: r) = some (acc, k + 1) := by rw [unq]; rfl
theorem unq_esc (acc : Bs) (k : Nat) (r : Bs) (h : (mnt r).2 ≠ 0) : unq acc k (92 :: r) = unq (acc ++ [(mnt r).1]) (k + 1 + (mnt r).2) (r.drop (mnt r).2) := by
  rw [unq]
  rw [if_neg (by decide), if_pos rfl, if_neg h]
theorem unq_bad (acc : Bs) (k : Nat) (r : Bs) (h : (mnt r).2 = 0) : unq acc k (92 :: r) = none := by
  rw [unq]
  rw [if_neg (by decide), if_pos rfl, if_pos h]
theorem unq_prt (acc : Bs) (k : Nat) (b : UInt8) (r : Bs) (h1 : b ≠ 34) (h2 : b ≠ 92) (h : prt b = true) : unq acc k (b :: r) = unq (acc ++ [b]) (k + 1) r := by
  rw [unq]
  rw [if_neg h1, if_neg h2, if_pos h]
theorem unq_not (acc : Bs) (k : Nat) (b : UInt8) (r : Bs) (h1 : b ≠ 34) (h2 : b ≠ 92) (h : prt b = false) : unq acc k (b :: r) = none := by
  rw [unq]
  rw [if_neg h1, if_neg h2, if_neg (by rw [h]; decide)]

theorem mnt_x (h l : UInt8) (r : Bs) : mnt (120 :: h :: l :: r) = if hx h < 16 ∧ hx l < 16 then (UInt8.ofNat (16 * hx h + hx l), 3) else (0, 0) := by simp [mnt, xd]

/-! There and back. -/
theorem byte_cases {p : UInt8 → Prop} (h : ∀ n : Fin 256, p (UInt8.ofNat n.val)) (b : UInt8) : p b := by
  have := h ⟨b.toNat, b.toNat_lt⟩
  simpa using this
theorem hx_dg : ∀ b : UInt8, hx (dg (b.toNat / 16)) = b.toNat / 16 ∧ hx (dg (b.toNat % 16)) = b.toNat % 16 := by
  apply byte_cases; decide +kernel
theorem hx_le : ∀ b : UInt8, hx b ≤ 16 := by
  apply byte_cases; decide +kernel
theorem dg_hx : ∀ b : UInt8, hx b < 16 → dg (hx b) = b := by
  apply byte_cases; decide +kernel
theorem hx_of_dg : ∀ n, n < 16 → hx (dg n) = n := by decide +kernel
theorem dg_low : ∀ n, n < 10 → (dg n).toNat = 48 + n := by decide +kernel
theorem dg_high : ∀ n, n < 16 → 10 ≤ n → (dg n).toNat = 97 + n - 10 := by decide +kernel
theorem unt_bad {r : Bs} (h : (mnt r).2 = 0) : unt 92 r = (0, 0) := by
  unfold unt; rw [if_neg (by decide), if_pos rfl, if_pos h]
theorem unt_esc {r : Bs} (h : (mnt r).2 ≠ 0) : unt 92 r = ((mnt r).1, (mnt r).2 + 1) := by
  unfold unt; rw [if_neg (by decide), if_pos rfl, if_neg h]
theorem unt_prt {b : UInt8} {r : Bs} (h1 : b ≠ 34) (h2 : b ≠ 92) (h : prt b = true) : unt b r = (b, 1) := by
  unfold unt; rw [if_pos (by simp [h, h1, h2])]
theorem unt_not {b : UInt8} {r : Bs} (h2 : b ≠ 92) (h : prt b = false) : unt b r = (0, 0) := by
  unfold unt; rw [if_neg (by simp [h]), if_neg h2]
theorem unt_end {r : Bs} : unt 34 r = (0, 0) := by
  unfold unt; rw [if_neg (by decide), if_neg (by decide)]
/-- One unit more. -/
theorem unq_unt (acc : Bs) (k : Nat) (b : UInt8) (r : Bs) (h : b ≠ 34) : unq acc k (b :: r) = if (unt b r).2 = 0 then none else unq (acc ++ [(unt b r).1]) (k + (unt b r).2) ((b :: r).drop (unt b r).2) := by
  by_cases h92 : b = 92
  · subst h92
    by_cases hm : (mnt r).2 = 0
    · rw [unt_bad hm, if_pos rfl, unq_bad _ _ _ hm]
    · rw [unt_esc hm, if_neg (by simp), unq_esc _ _ _ hm, List.drop_succ_cons, Nat.add_assoc, Nat.add_comm 1]
  · cases hp : prt b with
    | true => rw [unt_prt h h92 hp, if_neg (by simp), unq_prt _ _ _ _ h h92 hp]; rfl
    | false => rw [unt_not h92 hp, if_pos rfl, unq_not _ _ _ _ h h92 hp]
theorem esc_prt : ∀ b : UInt8, (esc b).all prt = true := by
  apply byte_cases; decide +kernel
theorem esc_len (b : UInt8) : 1 ≤ (esc b).length ∧ (esc b).length ≤ 4 := by
  unfold esc
  split
  · decide
  split
  · decide
  split
  · decide
  split <;> simp
theorem unq_escd (acc : Bs) (k : Nat) (b : UInt8) (r : Bs) : unq acc k (esc b ++ r) = unq (acc ++ [b]) (k + (esc b).length) r := by
  unfold esc
  split
  · rename_i h; subst h
    show unq acc k (92 :: 34 :: r) = _
    rw [unq_esc _ _ _ (by simp [mnt])]
    simp [mnt, Nat.add_assoc]
  split
  · rename_i h; subst h
    show unq acc k (92 :: 92 :: r) = _
    rw [unq_esc _ _ _ (by simp [mnt])]
    simp [mnt, Nat.add_assoc]
  split
  · rename_i h; subst h
    show unq acc k (92 :: 110 :: r) = _
    rw [unq_esc _ _ _ (by simp [mnt])]
    simp [mnt, Nat.add_assoc]
  rename_i h1 h2 _
  split
  · rename_i h
    show unq acc k (b :: r) = _
    rw [unq_prt _ _ _ _ h1 h2 h]; rfl
  · show unq acc k (92 :: 120 :: dg (b.toNat / 16) :: dg (b.toNat % 16) :: r) = _
    have hb := b.toNat_lt
    have e : mnt (120 :: dg (b.toNat / 16) :: dg (b.toNat % 16) :: r) = (b, 3) := by
      rw [mnt_x, (hx_dg b).1, (hx_dg b).2, if_pos (by omega), show 16 * (b.toNat / 16) + b.toNat % 16 = b.toNat by omega]
      simp
    rw [unq_esc _ _ _ (by rw [e]; exact (by decide : (3 : Nat) ≠ 0)), e]
    rfl
theorem unq_all (l : Bs) : ∀ (acc : Bs) (k : Nat) (r : Bs), unq acc k (l.flatMap esc ++ r) = unq (acc ++ l) (k + (l.flatMap esc).length) r := by
  induction l with
  | nil => intro acc k r; simp
  | cons b l ih =>
    intro acc k r
    rw [List.flatMap_cons, List.append_assoc, unq_escd, ih, List.append_assoc, List.length_append, Nat.add_assoc]; rfl
theorem uq_quo (l b : Bs) : uq (quo l ++ b) = some (l, (quo l).length) := by
  unfold quo
  show (if (34 : UInt8) = 34 then unq [] 1 ((l.flatMap esc ++ [34]) ++ b) else none) = _
  rw [if_pos rfl, List.append_assoc, unq_all]
  show unq _ _ (34 :: b) = _
  rw [unq_end]
  simp; omega
theorem quo_len (l : Bs) : l.length + 2 ≤ (quo l).length := by
  have : l.length ≤ (l.flatMap esc).length := by
    induction l with
    | nil => simp
    | cons b l ih => rw [List.flatMap_cons, List.length_append, List.length_cons]; have := (esc_len b).1; omega
  unfold quo
  rw [List.length_cons, List.length_append, List.length_singleton]; omega
theorem quo_le (l : Bs) : (quo l).length ≤ 4 * l.length + 2 := by
  have : (l.flatMap esc).length ≤ 4 * l.length := by
    induction l with
    | nil => simp
    | cons b l ih => rw [List.flatMap_cons, List.length_append, List.length_cons]; have := (esc_len b).2; omega
  unfold quo
  rw [List.length_cons, List.length_append, List.length_singleton]; omega
theorem quo_prt (l : Bs) : (quo l).all prt = true := by
  unfold quo
  rw [List.all_cons, List.all_append, List.all_flatMap]
  have : l.all (fun a => (esc a).all prt) = true := by
    rw [List.all_eq_true]; intro b _; exact esc_prt b
  rw [this]; decide
theorem quo_cut (l : Bs) : (quo l).take ((quo l).length - 1) = 34 :: l.flatMap esc := by
  unfold quo
  rw [← List.cons_append, List.length_append]
  simp
theorem uq_cut (l : Bs) : uq ((quo l).take ((quo l).length - 1)) = none := by
  rw [quo_cut]
  show (if (34 : UInt8) = 34 then unq [] 1 (l.flatMap esc) else none) = _
  have := unq_all l [] 1 []
  rw [List.append_nil] at this
  rw [if_pos rfl, this, unq_nil]
theorem uq_other (l : Bs) : uq (32 :: l) = none := by
  show (if (32 : UInt8) = 34 then unq [] 1 l else none) = _
  rw [if_neg (by decide)]
end Go.Proofs.YtpgabmfpffaajaaDoor
