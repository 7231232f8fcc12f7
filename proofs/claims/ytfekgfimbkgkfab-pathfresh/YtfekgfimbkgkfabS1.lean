import Derived.Test.YtfekgfimbkgkfabA6
import Derived.Test.YtfekgfimbkgkfabF1
namespace Go.Proofs.Ytfekgfimbkgkfab
open Go.RowKit Go.Maps

/-! The document's Parse, by itself: the parts so far, the run under way. -/
def RI (t : Bs) (k : Nat) (l : List Bs) (acc : Bs) : Prop := l ++ pts acc (t.drop k) = pts [] t ∧ (t.take k).all (· != 0) = true ∧ acc.length ≤ k ∧ l.length ≤ k
def fl (l : List Bs) (acc : Bs) : List Bs := if acc.isEmpty then l else l ++ [acc]
theorem RI.start (t : Bs) : RI t 0 [] [] := ⟨by simp, by simp, by simp, by simp⟩
theorem all_take_succ {t : Bs} {k : Nat} (hk : k < t.length) (h : (t.take k).all (· != 0) = true) (hb : t.getD k 0 ≠ 0) : (t.take (k + 1)).all (· != 0) = true := by
  rw [take_getD 0 hk, List.all_append, h]; simpa using hb
theorem RI.other {t : Bs} {k : Nat} {l : List Bs} {acc : Bs} (h : RI t k l acc) (hk : k < t.length) (h0 : t.getD k 0 ≠ 0) (hb : t.getD k 0 ≠ 47) : RI t (k + 1) l (acc ++ [t.getD k 0]) := by
  obtain ⟨h1, h2, h3, h4⟩ := h
  refine ⟨?_, all_take_succ hk h2 h0, by simp; omega, by omega⟩
  rw [drop_cons hk, pts_other hb] at h1; exact h1
theorem fl_len (l : List Bs) (acc : Bs) : (fl l acc).length ≤ l.length + 1 := by unfold fl; split <;> simp
theorem RI.slash {t : Bs} {k : Nat} {l : List Bs} {acc : Bs} (h : RI t k l acc) (hk : k < t.length) (hb : t.getD k 0 = 47) : RI t (k + 1) (fl l acc) [] := by
  obtain ⟨h1, h2, h3, h4⟩ := h
  refine ⟨?_, all_take_succ hk h2 (by rw [hb]; decide), by simp, by have := fl_len l acc; omega⟩
  rw [drop_cons hk, hb, pts_slash] at h1
  unfold fl
  cases he : acc.isEmpty with
  | true => rw [he] at h1; simpa using h1
  | false => rw [he] at h1; simpa using h1
theorem RI.fin {t : Bs} {l : List Bs} {acc : Bs} (h : RI t t.length l acc) : RI t (t.length + 1) (fl l acc) [] := by
  obtain ⟨h1, h2, h3, h4⟩ := h
  refine ⟨?_, ?_, by simp, by have := fl_len l acc; omega⟩
  · rw [List.drop_length] at h1
    rw [List.drop_of_length_le (by omega)]
    unfold fl
    cases he : acc.isEmpty with
    | true => simp [pts, he] at h1 ⊢; exact h1
    | false => simp [pts, he] at h1 ⊢; exact h1
  · rw [List.take_of_length_le (Nat.le_refl _)] at h2
    rw [List.take_of_length_le (by omega)]; exact h2
theorem RI.done {t : Bs} {l : List Bs} (h : RI t (t.length + 1) l []) : l = pts [] t ∧ t.all (· != 0) = true := by
  obtain ⟨h1, h2, _⟩ := h
  rw [List.drop_of_length_le (by omega)] at h1
  rw [List.take_of_length_le (by omega)] at h2
  exact ⟨by simpa [pts] using h1, h2⟩
theorem zero_all {t : Bs} {k : Nat} (hk : k < t.length) (hb : t.getD k 0 = 0) : t.all (· != 0) = false := by
  rw [List.all_eq_false]
  exact ⟨t.getD k 0, getD_mem 0 hk, by rw [hb]; decide⟩
theorem fl_strs (l : List Bs) (acc : Bs) (h : acc.isEmpty = false) : strs ((fl l acc).map mkB) = strs (l.map mkB) ++ [.string (mkB acc)] := by
  unfold fl; rw [h]; simp [strs]
theorem mkB_snoc (acc : Bs) (s : ByteArray) (k : Nat) (hk : k < s.size) : mkB acc ++ s.extract k (k + 1) = mkB (acc ++ [s.data.toList.getD k 0]) := by
  have h1 : s.extract k (k + 1) = mkB [s.data.toList.getD k 0] := by
    rw [mkB_extr]
    congr 1
    rw [drop_cons (by rw [← size_len]; exact hk), show k + 1 - k = 1 by omega]
    rfl
  rw [h1]
  have : ∀ a b : Bs, mkB a ++ mkB b = mkB (a ++ b) := by
    intro a b
    rw [← mkB_data (mkB a ++ mkB b)]
    congr 1
  exact this _ _
end Go.Proofs.Ytfekgfimbkgkfab
