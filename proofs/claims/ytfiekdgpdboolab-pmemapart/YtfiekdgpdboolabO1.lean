import Derived.Test.YtfiekdgpdboolabN1
namespace Go.Proofs.Ytfiekdgpdboolab
open Go.RowKit Go.Maps

theorem fold_less (l : List Int) (T : Int → Bool) (a : Int) : (l.foldl less T) a = (T a && decide (a ∉ l)) := by
  induction l generalizing T with
  | nil => simp
  | cons b l ih =>
    rw [List.foldl_cons, ih]
    by_cases h : a = b
    · subst h; simp [less]
    · simp [less, h]

theorem fold_view (S : St) : ∀ (l : List Int) (T : Int → Bool), (∀ a ∈ l, S.pd a ≠ [] ∧ 0 ≤ a ∧ a + 8 ≤ S.old.length ∧ a % 8 = 0) →
    (l.zip (l.map fun a => ((S.pd a).length : Int))).foldl S.pick (S.viewTo T) = S.viewTo (l.foldl less T)
  | [], T, _ => rfl
  | a :: l, T, h => by
    obtain ⟨h1, h2, h3, h4⟩ := h a (by simp)
    have hl : 0 < (S.pd a).length := List.length_pos_iff.2 h1
    have e1 : S.pick (S.viewTo T) (a, ((S.pd a).length : Int)) = S.viewTo (less T a) := by
      rw [← viewTo_step S T a h1 h2 h3 h4]
      unfold St.pick
      have e2 : ((S.pd a).length : Int) % ((S.pd a).length + 1 : Int) = (S.pd a).length := Int.emod_eq_of_lt (by omega) (by omega)
      simp only [e2]
      rw [if_pos (by omega)]
      congr 2
      omega
    rw [List.map_cons, List.zip_cons_cons, List.foldl_cons, e1, fold_view S l _ (fun b hb => h b (by simp [hb]))]
    rfl

/-- The last choices of all leave what View tells. -/
theorem crash_lasts {w : World} {F : Nat → Prop} {d : Nat} {S : St} {L : Lay} (hd : DevAt w F d S L) {ks : List Int} (hR : Rising S ks) : S.crash ks (ks.map fun a => ((S.pd a).length : Int)) = S.view := by
  have e0 : S.viewTo (fun _ => true) = S.old := viewTo_start S _ (fun a h => by simp at h)
  unfold St.crash
  rw [← e0, fold_view S ks _ (fun a ha => ⟨(hR.2 a).1 ha, hd.dom a ((hR.2 a).1 ha)⟩)]
  unfold St.view St.viewTo
  apply List.map_congr_left
  intro i _
  unfold St.viewIn
  by_cases hp : S.pd (8 * (i / 8) : Nat) = []
  · rw [if_neg (fun h => h.2 hp), if_neg (fun h => h.2 hp)]
  · rw [if_pos ⟨by rw [fold_less]; simp; exact (hR.2 _).2 hp, hp⟩, if_pos ⟨rfl, hp⟩]

theorem fold_only (S : St) (c : Int) : ∀ (k : Nat) (ks bs : List Int), k < ks.length → (ks.zip (List.replicate k 0 ++ [c])).foldl S.pick bs = S.pick bs (ks.getD k 0, c)
  | 0, [], _, h => by simp at h
  | 0, a :: l, bs, _ => by simp
  | k + 1, [], _, h => by simp at h
  | k + 1, a :: l, bs, h => by
    have e : S.pick bs (a, 0) = bs := by simp [St.pick]
    rw [List.replicate_succ, List.cons_append, List.zip_cons_cons, List.foldl_cons, e, fold_only S c k l bs (by simpa using h)]
    simp [List.getD_eq_getElem?_getD]

/-- A choice of one word alone. -/
theorem crash_only {S : St} {ks : List Int} {k : Nat} (hk : k < ks.length) (c : Nat) (hc : c ≤ (S.pd (ks.getD k 0)).length) :
    S.crash ks (List.replicate k 0 ++ [(c : Int)]) = if 0 < c then layB S.old (ks.getD k 0).toNat ((S.pd (ks.getD k 0)).getD (c - 1) 0) else S.old := by
  unfold St.crash
  rw [fold_only S c k ks S.old hk]
  unfold St.pick
  have e2 : (c : Int) % ((S.pd (ks.getD k 0)).length + 1 : Int) = c := Int.emod_eq_of_lt (by omega) (by omega)
  simp only [e2]
  by_cases h : 0 < c
  · rw [if_pos (by omega), if_pos h]
    congr 2
    omega
  · rw [if_neg (by omega), if_neg h]

theorem pairwise_len : ∀ (l : List Int) (lo hi : Int), l.Pairwise (· < ·) → (∀ x ∈ l, lo ≤ x ∧ x < hi) → l.length ≤ (hi - lo).toNat
  | [], _, _, _, _ => by simp
  | a :: l, lo, hi, hp, h => by
    rw [List.pairwise_cons] at hp
    have h1 := h a (by simp)
    have h2 := pairwise_len l (a + 1) hi hp.2 (fun x hx => ⟨by have := hp.1 x hx; omega, (h x (by simp [hx])).2⟩)
    simp only [List.length_cons]
    omega

theorem rising_len {w : World} {F : Nat → Prop} {d : Nat} {S : St} {L : Lay} (hd : DevAt w F d S L) {ks : List Int} (hR : Rising S ks) : ks.length ≤ S.old.length := by
  have := pairwise_len ks 0 S.old.length hR.1 (fun x hx => by have := hd.dom x ((hR.2 x).1 hx); omega)
  omega

theorem info3 : (Try.prog.info? 3).map (fun i => (i.zero, i.size, i.bytes)) = some (some (.int .i64 0), 1, 8) := by kernel_rfl
def i64s (l : List Int) : List Value := l.map (Value.int .i64)

end Go.Proofs.Ytfiekdgpdboolab
