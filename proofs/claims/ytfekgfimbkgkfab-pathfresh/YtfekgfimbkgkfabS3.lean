import Derived.Test.YtfekgfimbkgkfabS2
namespace Go.Proofs.Ytfekgfimbkgkfab
open Go.RowKit Go.Maps

/-! The document's Text, by itself. -/
def rT (ps : List ByteArray) (sl : Bool) : Bs := bare ps ++ (if sl = true then [47] else [])
theorem rT_txt {ps : List ByteArray} {sl : Bool} (h : ¬ (ps = [] ∧ sl = false)) : txt ps sl = rT ps sl := by
  unfold txt rT
  cases ps with
  | nil => cases sl with
    | false => exact absurd ⟨rfl, rfl⟩ h
    | true => rfl
  | cons s ps => simp
theorem rtext_yes {ps : List ByteArray} {sl : Bool} (h : ¬ (ps = [] ∧ sl = false)) (h0 : prsE (rT ps sl) = 0) (h1 : ps = prsP (rT ps sl)) (h2 : sl = prsS (rT ps sl)) : txtF ps sl = mkB (rT ps sl) := by
  have := (told_of h0).1
  rw [← h1, ← h2] at this
  unfold txtF
  rw [if_pos this, rT_txt h]
theorem rtext_no {ps : List ByteArray} {sl : Bool} (h : ¬ (ps = [] ∧ sl = false)) (hn : ¬ (prsE (rT ps sl) = 0 ∧ ps = prsP (rT ps sl) ∧ sl = prsS (rT ps sl))) : txtF ps sl = bz := by
  unfold txtF
  rw [if_neg]
  · rfl
  intro ht
  obtain ⟨a, b, c, _⟩ := read_back ht
  rw [rT_txt h] at a b c
  exact hn ⟨a, b.symm, c.symm⟩
theorem rtext_long {ps : List ByteArray} {sl : Bool} {k : Nat} (h : 200 < (bare (ps.take k)).length) : txtF ps sl = bz := by
  unfold txtF
  rw [if_neg]
  · rfl
  intro ht
  have := ((tells_sizes ht).2 k).1
  omega
theorem rtext_root : txtF [] false = ⟨#[47]⟩ := by decide +kernel
theorem mkB_cat (a b : Bs) : mkB a ++ mkB b = mkB (a ++ b) := by
  rw [← mkB_data (mkB a ++ mkB b)]
  congr 1
theorem mkB_app (a : Bs) (s : ByteArray) : mkB a ++ ⟨#[47]⟩ ++ s = mkB (a ++ (47 :: s.data.toList)) := by
  have h1 : (⟨#[47]⟩ : ByteArray) = mkB [47] := rfl
  conv => lhs; rw [h1, mkB_cat, ← mkB_data s, mkB_cat]
  simp
end Go.Proofs.Ytfekgfimbkgkfab
