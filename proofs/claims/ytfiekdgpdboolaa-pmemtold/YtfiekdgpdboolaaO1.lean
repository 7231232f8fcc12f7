import Derived.Test.YtfiekdgpdboolaaN1
namespace Go.Proofs.Ytfiekdgpdboolaa
open Go.RowKit Go.Maps

theorem fold_less (l : List Int) (T : Int → Bool) (a : Int) : (l.foldl less T) a = (T a && decide (a ∉ l)) := by
  induction l generalizing T with
  | nil => simp
  | cons b l ih =>
    rw [List.foldl_cons, ih]
    by_cases h : a = b
    · subst h; simp [less]
    · simp [less, h]

theorem fold_view (S : St) : ∀ (l : List Int) (T : Int → Bool), (∀ a ∈ l, S.pd a ≠ [] ∧ 0 ≤ a ∧ a + 8 ≤ S.old.length ∧ a % 8 = 0) →
    (l.zip (l.map fun a => ((S.pd a).length : Int))).foldl S.pick (S.viewTo T) = S.viewTo (l.foldl less T)
  | [], T, _ => rfl
  | a :: l, T, h => by
    obtain ⟨h1, h2, h3, h4⟩ := h a (by simp)
    have hl : 0 < (S.pd a).length := List.length_pos_iff.2 h1
    have e1 : S.pick (S.viewTo T) (a, ((S.pd a).length : Int)) = S.viewTo (less T a) := by
      rw [← viewTo_step S T a h1 h2 h3 h4]
      unfold St.pick
      have e2 : ((S.pd a).length : Int) % ((S.pd a).length + 1 : Int) = (S.pd a).length := Int.emod_eq_of_lt (by omega) (by omega)
      simp only [e2]
      rw [if_pos (by omega)]
      congr 2
      omega
    rw [List.map_cons, List.zip_cons_cons, List.foldl_cons, e1, fold_view S l _ (fun b hb => h b (by simp [hb]))]
    rfl

/-- The last choices of all leave what View tells. -/
theorem crash_lasts {w : World} {F : Nat → Prop} {d : Nat} {S : St} {L : Lay} (hd : DevAt w F d S L) {ks : List Int} (hR : Rising S ks) : S.crash ks (ks.map fun a => ((S.pd a).length : Int)) = S.view := by
  have e0 : S.viewTo (fun _ => true) = S.old := viewTo_start S _ (fun a h => by simp at h)
  unfold St.crash
  rw [← e0, fold_view S ks _ (fun a ha => ⟨(hR.2 a).1 ha, hd.dom a ((hR.2 a).1 ha)⟩)]
  unfold St.view St.viewTo
  apply List.map_congr_left
  intro i _
  unfold St.viewIn
  by_cases hp : S.pd (8 * (i / 8) : Nat) = []
  · rw [if_neg (fun h => h.2 hp), if_neg (fun h => h.2 hp)]
  · rw [if_pos ⟨by rw [fold_less]; simp; exact (hR.2 _).2 hp, hp⟩, if_pos ⟨rfl, hp⟩]

theorem fold_only (S : St) (c : Int) : ∀ (k : Nat) (ks bs : List Int), k < ks.length → (ks.zip (List.replicate k 0 ++ [c])).foldl S.pick bs = S.pick bs (ks.getD k 0, c)
  | 0, [], _, h => by simp at h
  | 0, a :: l, bs, _ => by simp
  | k + 1, [], _, h => by simp at h
  | k + 1, a :: l, bs, h => by
    have e : S.pick bs (a, 0) = bs := by simp [St.pick]
    rw [List.replicate_succ, List.cons_append, List.zip_cons_cons, List.foldl_cons, e, fold_only S c k l bs (by simpa using h)]
    simp [List.getD_eq_getElem?_getD]

/-- A choice of one word alone. -/
theorem crash_only {S : St} {ks : List Int} {k : Nat} (hk : k < ks.length) (c : Nat) (hc : c ≤ (S.pd (ks.getD k 0)).length) :
    S.crash ks (List.replicate k 0 ++ [(c : Int)]) = if 0 < c then layB S.old (ks.getD k 0).toNat ((S.pd (ks.getD k 0)).getD (c - 1) 0) else S.old := by
  unfold St.crash
  rw [fold_only S c k ks S.old hk]
  unfold St.pick
  have e2 : (c : Int) % ((S.pd (ks.getD k 0)).length + 1 : Int) = c := Int.emod_eq_of_lt (by omega) (by omega)
  simp only [e2]
  by_cases h : 0 < c
  · rw [if_pos (by omega), if_pos h]
    congr 2
    omega
  · rw [if_neg (by omega), if_neg h]

theorem pairwise_len : ∀ (l : List Int) (lo hi : Int), l.Pairwise (· < ·) → (∀ x ∈ l, lo ≤ x ∧ x < hi) → l.length ≤ (hi - lo).toNat
  | [], _, _, _, _ => by simp
  | a :: l, lo, hi, hp, h => by
    rw [List.pairwise_cons] at hp
    have h1 := h a (by simp)
    have h2 := pairwise_len l (a + 1) hi hp.2 (fun x hx => ⟨by have := hp.1 x hx; omega, (h x (by simp [hx])).2⟩)
    simp only [List.length_cons]
    omega

theorem rising_len {w : World} {F : Nat → Prop} {d : Nat} {S : St} {L : Lay} (hd : DevAt w F d S L) {ks : List Int} (hR : Rising S ks) : ks.length ≤ S.old.length := by
  have := pairwise_len ks 0 S.old.length hR.1 (fun x hx => by have := hd.dom x ((hR.2 x).1 hx); omega)
  omega

theorem info3 : (Try.prog.info? 3).map (fun i => (i.zero, i.size, i.bytes)) = some (some (.int .i64 0), 1, 8) := by kernel_rfl
def i64s (l : List Int) : List Value := l.map (Value.int .i64)

set_option maxHeartbeats 400000 in
set_option maxRecDepth 20000 in
theorem only_any (k c : Nat) (w : World) (hk' : k ≤ 1000000) (_hc : c ≤ 1000000000) :
    Calls Try.prog 31 #[.int .i64 k, .int .i64 c] w fun e w' => ∃ g' c', e = .returned (.slice (some ⟨g', 0, none⟩) (k + 1 : Nat) c') ∧ w.heap.size ≤ g' ∧ (∀ i, i < k + 1 → w'.cell? ⟨g', i, none⟩ = some (.int .i64 ((List.replicate k 0 ++ [(c : Int)]).getD i 0))) ∧ g' < w'.heap.size ∧ Keeps (fun _ => False) w w' := by
  obtain ⟨i0, hi, hz0, hz1, hz2⟩ := info_parts info3
  go_enter Try.func31, Try.ntmps31
  go_wp2
  go_loopw [5, 6] (fun v i wr => ∃ j : Nat, j ≤ k ∧ i = .int .i64 j ∧ wr.ownsRow w.heap.size 3 1 v j (i64s (List.replicate j 0)) ∧ Keeps (fun _ => False) w wr)
    (fun _ i _ => k - (intOf i).toNat)
  case atStart => exact ⟨0, by omega, rfl, by simpa [i64s] using World.ownsRow_nil w w.heap.size 3 1, Keeps.refl _ _⟩
  case round =>
    obtain ⟨j, hj, rfl, hown, hkp⟩ := hrel
    have hsz := hkp.size
    have HKP := Hid.mk' hkp
    clear hkp
    by_cases hlt : j < k
    · have hlt' : (j : Int) < (k : Int) := by omega
      have HS : Hid (i64s (List.replicate (j + 1) 0) = i64s (List.replicate j 0) ++ [.int .i64 0]) := by
        show i64s _ = _
        rw [List.replicate_succ']
        simp [i64s]
      go_wp2_with (first
        | (at_builtin; go_must (refine wpList_append_lies _ rfl _ _ 23 rfl w.heap.size 3 i0 (.int .i64 0) 1 8 Try.underlying23 hi hz0 hz1 hz2 rfl (by decide) u5 j (i64s (List.replicate j 0)) rfl (hown.alloc _) ⟨wr.heap.size, 0, none⟩ 1 1 [.int .i64 0] rfl rfl (cell_one_new _ _ _) (by simp [Value.oneCell']) (by decide) (by unfold maxLen; omega) (by omega) (by simp; omega) (wr.heap.size + 1) (by simp) ?_); intro g2 c2 w2 hown2 hgrow2 hloc2 hlt2))
      go_roundw
      case rel =>
        refine ⟨j + 1, by omega, by go_num, by rw [HS.out]; exact hown2, ?_⟩
        refine (HKP.out.step (World.grownBy_alloc wr _ none) (by simp)).step hgrow2 ?_
        intro j hj
        exact Or.inr (hown.lt j hj).1
      case measure => simp [intOf]; omega
    · obtain rfl : j = k := by omega
      go_wp2_with (first
        | (at_builtin; go_must (refine wpList_append_lies _ rfl _ _ 23 rfl w.heap.size 3 i0 (.int .i64 0) 1 8 Try.underlying23 hi hz0 hz1 hz2 rfl (by decide) u5 j (i64s (List.replicate j 0)) rfl (hown.alloc _) ⟨wr.heap.size, 0, none⟩ 1 1 [.int .i64 c] rfl rfl (cell_one_new _ _ _) (by simp [Value.oneCell']) (by decide) (by unfold maxLen; omega) (by omega) (by simp; omega) (wr.heap.size + 1) (by simp) ?_); intro g2 c2 w2 hown2 hgrow2 hloc2 hlt2))
      go_ret
      have hk2 : Keeps (fun _ => False) w w2 := (HKP.out.step (World.grownBy_alloc wr _ none) (by simp)).step hgrow2 (fun j hj => Or.inr (hown.lt j hj).1)
      have e3 : i64s (List.replicate j 0) ++ [.int .i64 (c : Int)] = i64s (List.replicate j 0 ++ [(c : Int)]) := by simp [i64s]
      rw [e3] at hown2
      rcases hown2.2 with ⟨_, e2⟩ | ⟨g', c', cur, e1, hg, hh, q1, q2, q3, q4⟩
      · omega
      · refine ⟨g', c', by rw [← e1]; rfl, hg, fun i hi' => ?_, heap_lt hh, hk2⟩
        cases e1
        rw [hown2.cellAt i (by omega)]
        have hl : i < (List.replicate j 0 ++ [(c : Int)]).length := by simp; omega
        simp only [i64s, List.getElem?_map, List.getElem?_eq_getElem hl, List.getD_eq_getElem?_getD]
        rfl

set_option maxHeartbeats 1000000 in
set_option maxRecDepth 20000 in
theorem lasts_dev (w : World) (F : Nat → Prop) (d : Nat) (S : St) (L : Lay) (h : DevAt w F d S L) (hs' : S.steps ≤ 900000000) :
    Calls Try.prog 30 #[.pointer (some ⟨d, 0, none⟩)] w fun e w' => ∃ p cc ks, Rising S ks ∧ e = .returned (.slice p (ks.map fun a => ((S.pd a).length : Int)).length cc) ∧
      (0 < (ks.map fun a => ((S.pd a).length : Int)).length → ∃ g o, p = some ⟨g, o, none⟩ ∧ g < w'.heap.size ∧ ∀ i, i < (ks.map fun a => ((S.pd a).length : Int)).length → w'.cell? ⟨g, o + i, none⟩ = some (.int .i64 ((ks.map fun a => ((S.pd a).length : Int)).getD i 0))) ∧ Keeps (fun _ => False) w w' := by
  obtain ⟨i0, hi, hz0, hz1, hz2⟩ := info_parts info3
  have hdo := doubts_dev w F d S L h hs'
  have hln := fun ks hR => rising_len (ks := ks) h hR
  have hsz := h.size
  have HL := Hid.mk' (show ∀ a, ((S.pd a).length : Int) ≤ 900000000 from fun a => by have := h.lens a; omega)
  clear h
  go_enter Try.func30, Try.ntmps30
  go_wp2_with (first
    | (go_at_call 25; refine hdo.mono ?_; rintro e w2 ⟨v, ks, ng, rfl, hR, hrow, hng, hk2, hkl⟩
       clear hdo
       have hlk := hln ks hR
       have H2 := Hid.mk' (show Rising S ks ∧ w2.ownsRow w.heap.size 62 3 v ks.length (doubtCells S ng ks) ∧ Keeps (fun _ => False) w w2 from ⟨hR, hrow, hk2⟩)
       obtain ⟨pa, ca, hva⟩ : ∃ pa ca, v = .slice pa ks.length ca := by
         rcases hrow.2 with ⟨e1, e2⟩ | ⟨g, cp, cur, e1, _⟩
         · exact ⟨none, 0, by rw [e1, e2]⟩
         · exact ⟨_, _, e1⟩
       subst hva
       have HC : Hid (0 < ks.length → ∃ ga, pa = some ⟨ga, 0, none⟩ ∧ ∀ i, i < ks.length → w2.cell? ⟨ga, i * 3 + 2, none⟩ = some (.slice (some ⟨ng (ks.getD i 0), 0, none⟩) (S.pd (ks.getD i 0)).length (S.pd (ks.getD i 0)).length)) := by
         intro h0
         rcases hrow.2 with ⟨_, e2⟩ | ⟨ga, cpa, cura, e1, _⟩
         · omega
         cases e1
         exact ⟨ga, rfl, fun i hi => (hrow.cellAt _ (by omega)).trans (doubtCells_get S ng ks i hi).2.2⟩
       have hss := hk2.size
       clear hR hrow hng hk2 hln))
  go_loopw [4, 5] (fun v i wr => ∃ k : Nat, k ≤ ks.length ∧ i = .int .i64 k ∧ wr.ownsRow w2.heap.size 3 1 v k (i64s ((ks.take k).map fun a => ((S.pd a).length : Int))) ∧ Keeps (fun _ => False) w2 wr)
    (fun _ i _ => ks.length - (intOf i).toNat)
  case atStart => exact ⟨0, by omega, rfl, by simpa [i64s] using World.ownsRow_nil w2 w2.heap.size 3 1, Keeps.refl _ _⟩
  case round =>
    obtain ⟨k, hk, rfl, hown, hkp⟩ := hrel
    have hsz2 := hkp.size
    have HKP := Hid.mk' hkp
    by_cases hlt : k < ks.length
    · obtain ⟨ga, rfl, hcc⟩ := HC.out (by omega)
      have hc1 := hkp.cell (hcc k hlt) (by simp)
      have HS : Hid (i64s ((ks.take (k + 1)).map fun a => ((S.pd a).length : Int)) = i64s ((ks.take k).map fun a => ((S.pd a).length : Int)) ++ [.int .i64 ((S.pd (ks.getD k 0)).length : Int)]) := by
        show i64s _ = _
        rw [List.take_succ_eq_append_getElem hlt]
        simp only [i64s, List.map_append, List.map_cons, List.map_nil]
        rw [List.getD_eq_getElem?_getD, List.getElem?_eq_getElem hlt]
        rfl
      have hlb := HL.out (ks.getD k 0)
      generalize ng (ks.getD k 0) = gx at *
      generalize (S.pd (ks.getD k 0)).length = ln at *
      have h3 : (0 : Int) ≤ (k : Int) := by omega
      have h4 : (k : Int) < (ks.length : Int) := by omega
      clear hkp hcc
      go_wp2_with (first
        | (at_builtin; go_must (refine wpList_append_lies _ rfl _ _ 23 rfl w2.heap.size 3 i0 (.int .i64 0) 1 8 Try.underlying23 hi hz0 hz1 hz2 rfl (by decide) u4 k (i64s ((ks.take k).map fun a => ((S.pd a).length : Int))) rfl (hown.alloc _) ⟨wr.heap.size, 0, none⟩ 1 1 [.int .i64 ln] rfl rfl (cell_one_new _ _ _) (by simp [Value.oneCell']) (by decide) (by unfold maxLen; omega) (by omega) (by simp; omega) (wr.heap.size + 1) (by simp) ?_); intro g2 c2 w4 hown2 hgrow2 hloc2 hlt2))
      go_roundw
      case rel =>
        refine ⟨k + 1, by omega, by go_num, by rw [HS.out]; exact hown2, ?_⟩
        refine (HKP.out.step (World.grownBy_alloc wr _ none) (by simp)).step hgrow2 ?_
        intro j hj
        exact Or.inr (hown.lt j hj).1
      case measure => simp [intOf]; omega
    · obtain rfl : k = ks.length := by omega
      rw [List.take_of_length_le (Nat.le_refl _)] at hown
      obtain ⟨pv, cv, hva⟩ : ∃ pv cv, u4 = .slice pv ks.length cv := by
        rcases hown.2 with ⟨e1, e2⟩ | ⟨g, cp, cur, e1, _⟩
        · exact ⟨none, 0, by rw [e1, e2]⟩
        · exact ⟨_, _, e1⟩
      subst hva
      have HO := Hid.mk' hown
      clear hown hkp
      go_wp2
      go_ret
      have hown := HO.out
      refine ⟨pv, cv, ks, H2.out.1, by simp, fun h0 => ?_, H2.out.2.2.trans HKP.out⟩
      rw [List.length_map] at h0 ⊢
      rcases hown.2 with ⟨_, e2⟩ | ⟨g', c', cur, e1, hg, hh, _⟩
      · omega
      · cases e1
        refine ⟨g', 0, rfl, heap_lt hh, fun i hi' => ?_⟩
        rw [Nat.zero_add, hown.cellAt i (by omega)]
        have hl : i < (ks.map fun a => ((S.pd a).length : Int)).length := by simpa using hi'
        simp only [i64s, List.getElem?_map, List.getElem?_eq_getElem hl, List.getD_eq_getElem?_getD]
        simp

end Go.Proofs.Ytfiekdgpdboolaa
