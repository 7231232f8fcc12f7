import Derived.Test.YtfekgfimbkgkfacC8
import Derived.Test.YtfekgfimbkgkfacA5
namespace Go.Proofs.Ytfekgfimbkgkfac
open Go.RowKit Go.Maps

theorem dotty_take (p : List ByteArray) (k : Nat) (hk : k < p.length) (h : dotty (p.take k) = false) : dotty (p.take (k + 1)) = (isDot (p.getD k bz) || isUp (p.getD k bz)) := by
  unfold dotty at h ⊢
  rw [take_getD bz hk, List.any_append, h]; simp
theorem dotty_hit (p : List ByteArray) (k : Nat) (hk : k < p.length) (h : (isDot (p.getD k bz) || isUp (p.getD k bz)) = true) : dotty p = true := by
  unfold dotty
  rw [List.any_eq_true]
  exact ⟨p.getD k bz, getD_mem bz hk, h⟩

theorem take_eq_step {α : Type} (z : α) {la lb : List α} {k : Nat} (h1 : k < la.length) (h2 : k < lb.length) (h : la.take k = lb.take k) (e : la.getD k z = lb.getD k z) : la.take (k + 1) = lb.take (k + 1) := by
  rw [take_getD z h1, take_getD z h2, h, e]
theorem bytes_eq {a b : ByteArray} : (a.toList == b.toList) = decide (a = b) := by
  rw [ByteArray.toList_eq, ByteArray.toList_eq, Bool.eq_iff_iff]
  simp only [beq_iff_eq, decide_eq_true_eq]
  constructor
  · intro h; rw [← mkB_data a, h, mkB_data]
  · rintro rfl; rfl

theorem own_row0 (b o : Nat) : (⟨b, o, none⟩ : Addr).add 0 = ⟨b, o, none⟩ := addr_zero _
def fA : ByteArray := ⟨#[97]⟩
def fB : ByteArray := ⟨#[98]⟩
def fE : List Ed := [(1, fA, 2, true), (2, fB, 3, true)]
theorem f_prsE : prsE [47, 97, 47, 47, 98, 47] = 0 := by decide +kernel
theorem f_prsS : prsS [47, 97, 47, 47, 98, 47] = true := by decide +kernel
theorem f_prsP : prsP [47, 97, 47, 47, 98, 47] = [fA, fB] := by decide +kernel
theorem f_txt : txtF [fA, fB] true = ⟨#[47, 97, 47, 98, 47]⟩ := by decide +kernel
theorem f_rsv : rsv (tabF fE) [fA, fB] true = (3, true, 0) := by decide +kernel
theorem f_prn : prn (tabF fE) [fA, fB] = (2, fB, 0) := by decide +kernel
end Go.Proofs.Ytfekgfimbkgkfac
