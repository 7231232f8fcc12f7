import Derived.Test.YtngoifbflpeapacGreatDoorA8
import Derived.Test.YtngoifbflpeapacGreatDoorA4
namespace Go.Proofs.YtngoifbflpeapacGreatDoor
open Go.RowKit Go.Maps
set_option maxRecDepth 100000

theorem xd_le (r : Bs) : (xd r).2 ≤ r.length + 1 := by
  match r with
  | [] => simp [xd]
  | [_] => simp [xd]
  | h :: l :: r =>
    have e : xd (h :: l :: r) = if hx h < 16 ∧ hx l < 16 then (UInt8.ofNat (16 * hx h + hx l), 3) else (0, 0) := rfl
    rw [e]
    split <;> simp
theorem mnt_le (r : Bs) : (mnt r).2 ≤ r.length := by
  match r with
  | [] => simp [mnt]
  | b :: r =>
    rw [mnt_cons]
    have := xd_le r
    split
    · simp
    split
    · simp
    split
    · simp
    split
    · simpa using this
    · simp
/-- What Unquote's loop holds: what is read so far, and the place. -/
def UI (t : Bs) (k : Nat) (acc : Bs) : Prop := 1 ≤ k ∧ k ≤ t.length ∧ acc.length ≤ k ∧ unq acc k (t.drop k) = uq t
theorem uq_start {t : Bs} (h : 0 < t.length) (hb : t.getD 0 0 = 34) : UI t 1 [] := by
  refine ⟨Nat.le_refl _, h, by simp, ?_⟩
  have := drop_cons h
  rw [List.drop_zero, hb] at this
  generalize t.drop (0 + 1) = r at this
  subst this
  show _ = if (34 : UInt8) = 34 then unq [] 1 r else none
  rw [if_pos rfl]
theorem uq_bad {t : Bs} (h : 0 < t.length) (hb : ¬ t.getD 0 0 = 34) : uq t = none := by
  have := drop_cons h
  rw [List.drop_zero] at this
  rw [this]
  show (if t.getD 0 0 = 34 then _ else none) = _
  rw [if_neg hb]
theorem uqT_none {t : Bs} (h : uq t = none) : uqT t = ⟨#[]⟩ ∧ uqN t = 0 ∧ uqE t = 194 := by unfold uqT uqN uqE; rw [h]; exact ⟨rfl, rfl, rfl⟩
theorem uqT_some {t a : Bs} {n : Nat} (h : uq t = some (a, n)) : uqT t = mkB a ∧ uqN t = (n : Int) ∧ uqE t = 0 := by unfold uqT uqN uqE; rw [h]; exact ⟨rfl, rfl, rfl⟩
theorem UI.out {t acc : Bs} {k : Nat} (h : UI t k acc) (hk : ¬ k < t.length) : uq t = none := by
  rw [← h.2.2.2, List.drop_of_length_le (by omega), unq_nil]
theorem UI.fin {t acc : Bs} {k : Nat} (h : UI t k acc) (hk : k < t.length) (hb : t.getD k 0 = 34) : uq t = some (acc, k + 1) := by
  rw [← h.2.2.2, drop_cons hk, hb, unq_end]
theorem UI.esc {t acc : Bs} {k : Nat} (h : UI t k acc) (hk : k < t.length) (hb : t.getD k 0 = 92) (hm : (mnt (t.drop (k + 1))).2 ≠ 0) : UI t (k + 1 + (mnt (t.drop (k + 1))).2) (acc ++ [(mnt (t.drop (k + 1))).1]) := by
  have hle := mnt_le (t.drop (k + 1))
  rw [List.length_drop] at hle
  refine ⟨by omega, by omega, by rw [List.length_append, List.length_singleton]; have := h.2.2.1; omega, ?_⟩
  rw [← h.2.2.2, drop_cons hk, hb, unq_esc _ _ _ hm, List.drop_drop]
theorem UI.bad {t acc : Bs} {k : Nat} (h : UI t k acc) (hk : k < t.length) (hb : t.getD k 0 = 92) (hm : (mnt (t.drop (k + 1))).2 = 0) : uq t = none := by
  rw [← h.2.2.2, drop_cons hk, hb, unq_bad _ _ _ hm]
theorem UI.prt {t acc : Bs} {k : Nat} (h : UI t k acc) (hk : k < t.length) (h1 : ¬ t.getD k 0 = 34) (h2 : ¬ t.getD k 0 = 92) (hp : prt (t.getD k 0) = true) : UI t (k + 1) (acc ++ [t.getD k 0]) := by
  refine ⟨by omega, by omega, by rw [List.length_append, List.length_singleton]; have := h.2.2.1; omega, ?_⟩
  rw [← h.2.2.2, drop_cons hk, unq_prt _ _ _ _ h1 h2 hp]
theorem UI.not {t acc : Bs} {k : Nat} (h : UI t k acc) (hk : k < t.length) (h1 : ¬ t.getD k 0 = 34) (h2 : ¬ t.getD k 0 = 92) (hp : Go.Proofs.YtngoifbflpeapacGreatDoor.prt (t.getD k 0) = false) : uq t = none := by
  rw [← h.2.2.2, drop_cons hk, unq_not _ _ _ _ h1 h2 hp]
theorem UI.unt {t acc : Bs} {k : Nat} (h : UI t k acc) (hk : k < t.length) (h1 : ¬ t.getD k 0 = 34) (hn : (Go.Proofs.YtngoifbflpeapacGreatDoor.unt (t.getD k 0) (t.drop (k + 1))).2 ≠ 0) : UI t (k + (Go.Proofs.YtngoifbflpeapacGreatDoor.unt (t.getD k 0) (t.drop (k + 1))).2) (acc ++ [(Go.Proofs.YtngoifbflpeapacGreatDoor.unt (t.getD k 0) (t.drop (k + 1))).1]) := by
  have hle := mnt_le (t.drop (k + 1))
  rw [List.length_drop] at hle
  have hu : (Go.Proofs.YtngoifbflpeapacGreatDoor.unt (t.getD k 0) (t.drop (k + 1))).2 ≤ t.length - k := by
    unfold Go.Proofs.YtngoifbflpeapacGreatDoor.unt
    split
    · show 1 ≤ _; omega
    split
    · split
      · simp
      · show _ + 1 ≤ _; omega
    · simp
  refine ⟨by omega, by omega, by rw [List.length_append, List.length_singleton]; have := h.2.2.1; omega, ?_⟩
  have e := drop_cons hk
  have e2 := h.2.2.2
  rw [e, unq_unt _ _ _ _ h1, if_neg hn, ← e, List.drop_drop] at e2
  exact e2
theorem UI.unt_bad {t acc : Bs} {k : Nat} (h : UI t k acc) (hk : k < t.length) (h1 : ¬ t.getD k 0 = 34) (hn : (Go.Proofs.YtngoifbflpeapacGreatDoor.unt (t.getD k 0) (t.drop (k + 1))).2 = 0) : uq t = none := by
  rw [← h.2.2.2, drop_cons hk, unq_unt _ _ _ _ h1, if_pos hn]
theorem extr_rest (s : ByteArray) (k : Nat) : (s.extract k s.size).data.toList = s.data.toList.drop k := by
  rw [extr, List.take_of_length_le (by rw [List.length_drop, size_len]; exact Nat.le_refl _)]
end Go.Proofs.YtngoifbflpeapacGreatDoor

