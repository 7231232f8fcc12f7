import Derived.Test.YtfiekdgpdboolaaK1
namespace Go.Proofs.Ytfiekdgpdboolaa
open Go.RowKit Go.Maps

/-- The values that notes store in the word at a, in order. -/
def hist (n : Nat) (l : List Note3) (a : Int) : List Int := l.filterMap fun t => if t.1 = 1 ∧ wordOf t.2.1 n = a then some t.2.2 else none

theorem hist_snoc (n : Nat) (l : List Note3) (t : Note3) (a : Int) : hist n (l ++ [t]) a = hist n l a ++ (if t.1 = 1 ∧ wordOf t.2.1 n = a then [t.2.2] else []) := by
  simp only [hist, List.filterMap_append]
  congr 1
  by_cases h : t.1 = 1 ∧ wordOf t.2.1 n = a
  · simp [h]
  · simp [h]

/-- Each word's old value and news are the end of what was stored in it. -/
def Follows (n : Nat) (l : List Note3) (S : St) : Prop := ∀ a : Nat, a % 8 = 0 → a + 8 ≤ n → ∃ pre, 0 :: hist n l a = pre ++ wordAt S.old a :: S.pd a

theorem wordAt_zero (n a : Nat) : wordAt (List.replicate n 0) a = 0 := by
  have : wordAt (List.replicate n 0) a = gsum (fun _ => 0) 8 := gsum_congr (fun i _ => by
    simp only [List.getD_eq_getElem?_getD, List.getElem?_replicate]
    split <;> rfl)
  rw [this]; simp [gsum]

theorem follows_start (n : Nat) : Follows n [] (St.fresh (List.replicate n 0)) := by
  intro a _ _
  exact ⟨[], by simp [hist, St.fresh, wordAt_zero]⟩

theorem fence_word (S : St) (a : Nat) (h1 : a + 8 ≤ S.old.length) (h8 : a % 8 = 0) (hv : ∀ v ∈ S.pd a, 0 ≤ v ∧ v < 18446744073709551616) (hm : S.ms a ≤ (S.pd a).length) :
    wordAt S.fence.old a = if 0 < S.ms a then (S.pd a).getD (S.ms a - 1) 0 else wordAt S.old a := by
  have e1 : ∀ i, i < 8 → S.fence.old.getD (a + i) 0 = S.tick.byteIn (fun _ => false) (a + i) := fun i hi => fenced_get S.tick _ _ (by simp only [St.tick]; omega)
  split
  · rename_i h0
    have hvv : 0 ≤ (S.pd a).getD (S.ms a - 1) 0 ∧ (S.pd a).getD (S.ms a - 1) 0 < 18446744073709551616 := by
      apply hv
      rw [List.getD_eq_getElem?_getD, List.getElem?_eq_getElem (show S.ms a - 1 < (S.pd a).length by omega)]
      exact List.getElem_mem _
    unfold wordAt
    conv => rhs; rw [← gsum_bytes hvv]
    apply gsum_congr
    intro i hi
    rw [e1 i hi]
    have e2 : 8 * ((a + i) / 8) = a := by omega
    have e3 : (a + i) % 8 = i := by omega
    simp only [St.byteIn, e2, e3, St.tick]
    rw [if_pos ⟨trivial, h0⟩]
  · rename_i h0
    apply wordAt_congr
    intro i hi
    rw [e1 i hi]
    have e2 : 8 * ((a + i) / 8) = a := by omega
    simp only [St.byteIn, e2, St.tick]
    rw [if_neg (by simp; omega)]

theorem follows_note {w : World} {F : Nat → Prop} {d n : Nat} {S : St} {L : Lay} (h : DevAt w F d S L) (hn : S.old.length = n) (l : List Note3) (t : Note3) (hf : Follows n l S) : Follows n (l ++ [t]) (S.note t.1 t.2.1 t.2.2 n) := by
  intro a ha8 han
  obtain ⟨pre, hp⟩ := hf a ha8 han
  rw [hist_snoc]
  by_cases hk : t.1 = 1
  · have eN : S.note t.1 t.2.1 t.2.2 n = S.store (wordOf t.2.1 n) t.2.2 := by simp [St.note, hk]
    rw [eN]
    by_cases hw : wordOf t.2.1 n = (a : Int)
    · refine ⟨pre, ?_⟩
      have e1 : (S.store (wordOf t.2.1 n) t.2.2).pd (a : Int) = S.pd a ++ [t.2.2] := by simp [St.store, hw]
      have e2 : (S.store (wordOf t.2.1 n) t.2.2).old = S.old := rfl
      rw [e1, e2, if_pos ⟨hk, hw⟩, ← List.cons_append, hp]
      simp
    · refine ⟨pre, ?_⟩
      have e1 : (S.store (wordOf t.2.1 n) t.2.2).pd (a : Int) = S.pd a := by simp [St.store, Ne.symm hw]
      have e2 : (S.store (wordOf t.2.1 n) t.2.2).old = S.old := rfl
      rw [e1, e2, if_neg (by simp [hw]), List.append_nil, hp]
  · rw [if_neg (by simp [hk]), List.append_nil]
    by_cases hk2 : t.1 = 2
    · have eN : S.note t.1 t.2.1 t.2.2 n = S.flush (wordOf t.2.1 n) := by simp [St.note, hk2]
      rw [eN]
      exact ⟨pre, hp⟩
    · have eN : S.note t.1 t.2.1 t.2.2 n = S.fence := by simp [St.note, hk, hk2]
      rw [eN]
      have hm := h.marks a
      have hfw := fence_word S a (by omega) ha8 (fun v hv => h.vals a v hv) hm
      have hfp : S.fence.pd (a : Int) = (S.pd a).drop (S.ms a) := by simp [St.fence, St.fenced, St.tick]
      rw [hfw, hfp]
      by_cases h0 : 0 < S.ms (a : Int)
      · rw [if_pos h0]
        refine ⟨pre ++ wordAt S.old a :: (S.pd a).take (S.ms a - 1), ?_⟩
        rw [hp, List.append_assoc]
        congr 1
        rw [List.cons_append]
        congr 1
        have hlt : S.ms (a : Int) - 1 < (S.pd (a : Int)).length := by omega
        have e3 : (S.pd (a : Int)).getD (S.ms a - 1) 0 :: (S.pd (a : Int)).drop (S.ms a) = (S.pd (a : Int)).drop (S.ms a - 1) := by
          rw [List.drop_eq_getElem_cons hlt, List.getD_eq_getElem?_getD, List.getElem?_eq_getElem hlt]
          congr 2; omega
        rw [e3, List.take_append_drop]
      · rw [if_neg h0]
        refine ⟨pre, ?_⟩
        have : S.ms (a : Int) = 0 := by omega
        rw [this, List.drop_zero, hp]

theorem crash_mem {w : World} {F : Nat → Prop} {d : Nat} {S : St} {L : Lay} (hd : DevAt w F d S L) (a : Nat) (h8 : a % 8 = 0) (ks cs : List Int) (hR : Rising S ks) : wordAt (S.crash ks cs) a ∈ wordAt S.old a :: S.pd a := by
  have key : ∀ (l : List (Int × Int)) (bs : List Int), bs.length = S.old.length → (∀ x ∈ l, x.1 ∈ ks) → wordAt bs a ∈ wordAt S.old a :: S.pd a → wordAt (l.foldl S.pick bs) a ∈ wordAt S.old a :: S.pd a := by
    intro l
    induction l with
    | nil => intro bs _ _ h; exact h
    | cons x l ih =>
      intro bs hbs hl hb
      have hx := (hR.2 x.1).1 (hl x (by simp))
      have hdom := hd.dom x.1 hx
      rw [List.foldl_cons]
      refine ih _ ((pick_len hdom.1 (by omega)).trans hbs) (fun y hy => hl y (by simp [hy])) ?_
      unfold St.pick
      split
      · rename_i hr
        have hrl := Int.emod_lt_of_pos x.2 (show (0 : Int) < ((S.pd x.1).length : Int) + 1 by omega)
        by_cases hxa : x.1 = (a : Int)
        · have hlt : (x.2 % (((S.pd x.1).length : Int) + 1) - 1).toNat < (S.pd x.1).length := by omega
          have hmem : (S.pd x.1).getD (x.2 % (((S.pd x.1).length : Int) + 1) - 1).toNat 0 ∈ S.pd x.1 := by
            rw [List.getD_eq_getElem?_getD, List.getElem?_eq_getElem hlt]
            exact List.getElem_mem _
          have et : x.1.toNat = a := by omega
          rw [et, wordAt_same _ _ (by omega) (hd.vals _ _ hmem)]
          rw [hxa] at hmem ⊢
          exact List.mem_cons_of_mem _ hmem
        · rw [wordAt_other _ _ _ _ (by omega) (by omega)]
          exact hb
      · exact hb
  exact key _ _ rfl (fun x hx => (List.of_mem_zip hx).1) (by simp)

theorem view_word {w : World} {F : Nat → Prop} {d : Nat} {S : St} {L : Lay} (hd : DevAt w F d S L) (a : Nat) (h8 : a % 8 = 0) (h1 : a + 8 ≤ S.old.length) : wordAt S.view a = (wordAt S.old a :: S.pd a).getLastD 0 := by
  have e1 : ∀ i, i < 8 → S.view.getD (a + i) 0 = S.viewIn (fun _ => false) (a + i) := fun i hi => viewTo_get S _ _ (by omega)
  by_cases hp : S.pd (a : Int) = []
  · rw [hp]
    simp only [List.getLastD_cons, List.getLastD_nil]
    apply wordAt_congr
    intro i hi
    rw [e1 i hi]
    have e2 : 8 * ((a + i) / 8) = a := by omega
    simp only [St.viewIn, e2]
    rw [if_neg (by simp [hp])]
  · have hlen : 0 < (S.pd (a : Int)).length := List.length_pos_iff.2 hp
    have hlast : (wordAt S.old a :: S.pd a).getLastD 0 = (S.pd a).getD ((S.pd a).length - 1) 0 := by
      rw [List.getLastD_cons, List.getLastD_eq_getLast?, List.getLast?_eq_getElem?, List.getD_eq_getElem?_getD, List.getElem?_eq_getElem (by omega)]
      rfl
    have hvv := hd.vals a _ (show (S.pd (a : Int)).getD ((S.pd (a : Int)).length - 1) 0 ∈ S.pd a by
      rw [List.getD_eq_getElem?_getD, List.getElem?_eq_getElem (show (S.pd (a : Int)).length - 1 < (S.pd (a : Int)).length by omega)]
      exact List.getElem_mem _)
    rw [hlast]
    unfold wordAt
    conv => rhs; rw [← gsum_bytes hvv]
    apply gsum_congr
    intro i hi
    rw [e1 i hi]
    have e2 : 8 * ((a + i) / 8) = a := by omega
    have e3 : (a + i) % 8 = i := by omega
    simp only [St.viewIn, e2, e3]
    rw [if_pos ⟨trivial, hp⟩]

/-- The value that was stored last (0: none was). -/
def lastOf (n : Nat) (l : List Note3) (a : Int) : Int := (0 :: hist n l a).getLastD 0

theorem last_append {pre s : List Int} {x : Int} : (pre ++ x :: s).getLastD 0 = (x :: s).getLastD 0 := by
  rw [List.getLastD_eq_getLast?, List.getLastD_eq_getLast?, List.getLast?_append]
  have : (x :: s).getLast? = some ((x :: s).getLast (by simp)) := List.getLast?_eq_some_getLast (by simp)
  rw [this]; rfl

theorem view_last {w : World} {F : Nat → Prop} {d n : Nat} {S : St} {L : Lay} (hd : DevAt w F d S L) (l : List Note3) (hf : Follows n l S) (hn : S.old.length = n) (a : Nat) (h8 : a % 8 = 0) (h1 : a + 8 ≤ n) : wordAt S.view a = lastOf n l a := by
  obtain ⟨pre, hp⟩ := hf a h8 h1
  rw [view_word hd a h8 (by omega), lastOf, hp, last_append]

theorem crash_hist {w : World} {F : Nat → Prop} {d n : Nat} {S : St} {L : Lay} (hd : DevAt w F d S L) (l : List Note3) (hf : Follows n l S) (a : Nat) (h8 : a % 8 = 0) (h1 : a + 8 ≤ n) (ks cs : List Int) (hR : Rising S ks) : wordAt (S.crash ks cs) a = 0 ∨ wordAt (S.crash ks cs) a ∈ hist n l a := by
  obtain ⟨pre, hp⟩ := hf a h8 h1
  have h2 := crash_mem hd a h8 ks cs hR
  have h3 : wordAt (S.crash ks cs) a ∈ 0 :: hist n l a := by rw [hp]; exact List.mem_append_right _ h2
  simpa using h3

theorem hist_mem {n : Nat} {l : List Note3} {a v : Int} (h : v ∈ hist n l a) : ∃ j, j < l.length ∧ (l.getD j (0, 0, 0)).1 = 1 ∧ wordOf (l.getD j (0, 0, 0)).2.1 n = a ∧ (l.getD j (0, 0, 0)).2.2 = v := by
  simp only [hist, List.mem_filterMap] at h
  obtain ⟨t, ht, hv⟩ := h
  obtain ⟨j, hj, rfl⟩ := List.getElem_of_mem ht
  split at hv
  · rename_i hc
    refine ⟨j, hj, ?_⟩
    rw [List.getD_eq_getElem?_getD, List.getElem?_eq_getElem hj]
    exact ⟨hc.1, hc.2, by simpa using hv⟩
  · cases hv

end Go.Proofs.Ytfiekdgpdboolaa
