import Derived.Test.YtngoifbflpeapaaDoorA3
namespace Go.Proofs.YtngoifbflpeapaaDoor
open Go.RowKit Go.Maps
set_option maxRecDepth 100000

theorem unt_cons {b c : UInt8} {r : Bs} (hb : b = 92) : unt b (c :: r) = if c = 34 then (34, 2) else if c = 92 then (92, 2) else if c = 110 then (10, 2) else if c = 120 then (if (xd r).2 = 0 then (0, 0) else ((xd r).1, (xd r).2 + 1)) else (0, 0) := by
  subst hb
  unfold unt
  rw [if_neg (by decide), if_pos rfl, mnt_cons]
  split
  · rfl
  split
  · rfl
  split
  · rfl
  split
  · rfl
  · rfl
theorem unt_none {b : UInt8} {r : Bs} (h1 : pln b = false) (h2 : ¬ b = 92) : unt b r = (0, 0) := by
  unfold unt
  rw [if_neg, if_neg h2]
  have : (prt b && (b != 34) && (b != 92)) = pln b := rfl
  rw [this, h1]; decide
theorem unt_self {b : UInt8} {r : Bs} (h1 : pln b = true) : unt b r = (b, 1) := by
  unfold unt
  have : (prt b && (b != 34) && (b != 92)) = pln b := rfl
  rw [this, if_pos h1]
theorem pln_92 {b : UInt8} (h : b = 92) : pln b = false := by subst h; decide
theorem xd_short {r : Bs} (h : r.length < 2) : xd r = (0, 0) := by
  match r with
  | [] => rfl
  | [_] => rfl
  | _ :: _ :: _ => simp only [List.length_cons] at h; omega
theorem by_ne {b : UInt8} {k : Int} (c : UInt8) (hk : (c.toNat : Int) = k) (h : ¬ b = c) : ((b.toNat : Int) != k) = true := by
  have := by_no c hk h
  rw [bne, this]; rfl
theorem by_nn {b : UInt8} {k : Int} (c : UInt8) (hk : (c.toNat : Int) = k) (h : b = c) : ((b.toNat : Int) != k) = false := by
  have := by_yes c hk h
  rw [bne, this]; rfl

end Go.Proofs.YtngoifbflpeapaaDoor

