import Derived.Test.YtendmohjodeelaaE1
namespace Go.Proofs.Ytendmohjodeelaa
open Go.RowKit Go.Maps Go.Great Go.Sort Go.Shelf

/-- Stops' second loop behind j names of the list: what the index holds, what was made. -/
structure SI (n : Nat) (L : List De) (d : Int) (j : Nat) (R : List Rw) (md : List De) : Prop where
  rise : Rise R
  ok : ∀ r ∈ R, OkR r
  few : R.length ≤ n
  left : ∀ k, j ≤ k → k < L.length → (d, (L.getD k dz).1, (L.getD k dz).2) ∈ R
  only : ∀ r ∈ R, r.1 = d → (r.2.1, r.2.2) ∈ md ∨ ∃ k, j ≤ k ∧ k < L.length ∧ L.getD k dz = (r.2.1, r.2.2)
  made : ∀ m ∈ md, (d, m.1, m.2) ∈ R
  off : ∀ m ∈ md, ∀ k, j ≤ k → k < L.length → m.1 ≠ (L.getD k dz).1
  apart : md.Pairwise (fun a b => a.1 ≠ b.1)
  mlen : md.length ≤ j

theorem si_start {S : List Rw} (h : Rise S) (ok : ∀ r ∈ S, OkR r) (d : Int) : SI S.length (lstS S d) d 0 S [] := by
  refine ⟨h, ok, Nat.le_refl _, fun k _ hk => ?_, fun r hr hd => Or.inr ?_, by simp, by simp, List.Pairwise.nil, by simp⟩
  · have hm : (lstS S d).getD k dz ∈ lstS S d := by rw [getD_lt hk]; exact List.getElem_mem ..
    exact mem_lst.1 hm
  · have hm : (r.2.1, r.2.2) ∈ lstS S d := mem_lst.2 (by subst hd; exact hr)
    obtain ⟨k, hk, e⟩ := List.getElem_of_mem hm
    exact ⟨k, by omega, hk, by rw [getD_lt hk]; exact e⟩
theorem getD_inj {L : List De} (hL : L.Pairwise (fun a b => a.1 ≠ b.1)) {i k : Nat} (hi : i < L.length) (hk : k < L.length) (h : i ≠ k) : (L.getD i dz).1 ≠ (L.getD k dz).1 := by
  rw [getD_lt hi, getD_lt hk]
  rcases Nat.lt_or_gt_of_ne h with h | h
  · exact List.pairwise_iff_getElem.1 hL i k hi hk h
  · exact fun e => List.pairwise_iff_getElem.1 hL k i hk hi h e.symm
theorem si_step {n : Nat} {L : List De} {d : Int} {j : Nat} {R : List Rw} {md : List De} (h : SI n L d j R md) (hd : 1 ≤ d ∧ d ≤ 256) (hL : L.Pairwise (fun a b => a.1 ≠ b.1)) (hj : j < L.length) {q : De} (hq : L.getD j dz = q) :
    getS R d q.1 = q.2 ∧ dropE R d q.1 = 0 ∧ getS (delS R d q.1) d q.1 = 0 ∧ ∀ t : ByteArray,
      (putE (delS R d q.1) d t q.2 = 0 → SI n L d (j + 1) (putS (delS R d q.1) d t q.2) (md ++ [(t, q.2)])) ∧ (putE (delS R d q.1) d t q.2 ≠ 0 → SI n L d (j + 1) (putS (delS R d q.1) d t q.2) md) := by
  have hm : (d, q.1, q.2) ∈ R := by have := h.left j (Nat.le_refl _) hj; rwa [hq] at this
  have hh : hasS R d q.1 = true := hasS_iff.2 ⟨_, hm, rfl, rfl⟩
  have hlen := del_len h.rise hh
  have hq2 : 1 ≤ q.2 ∧ q.2 ≤ 256 := (h.ok _ hm).2.2
  have hfew := h.few
  -- behind the Drop
  have h1 : SI n L d (j + 1) (delS R d q.1) md ∧ (delS R d q.1).length < n := by
    refine ⟨⟨del_rise h.rise _ _, fun r hr => h.ok r (mem_del.1 hr).1, by omega, fun k hk hk2 => mem_del.2 ⟨h.left k (by omega) hk2, ?_⟩, fun r hr hrd => ?_, fun m hm' => mem_del.2 ⟨h.made m hm', ?_⟩, fun m hm' k hk hk2 => h.off m hm' k (by omega) hk2, h.apart, by have := h.mlen; omega⟩, by omega⟩
    · rintro ⟨_, e⟩
      exact getD_inj hL hk2 hj (by omega) (by rw [hq]; exact e)
    · obtain ⟨hr1, hr2⟩ := mem_del.1 hr
      rcases h.only r hr1 hrd with h2 | ⟨k, hk, hk2, e⟩
      · exact Or.inl h2
      · refine Or.inr ⟨k, ?_, hk2, e⟩
        rcases Nat.lt_or_ge j k with h3 | h3
        · exact h3
        · obtain rfl : k = j := by omega
          rw [hq] at e
          exact absurd ⟨hrd, by rw [e]⟩ hr2
    · rintro ⟨_, e⟩
      exact h.off m hm' j (Nat.le_refl _) hj (by rw [hq]; exact e)
  refine ⟨getS_mem h.rise hm, by simp [dropE, hh], getS_none (hasS_not.2 fun r hr => (mem_del.1 hr).2), fun t => ⟨fun he => ?_, fun he => by rw [putS, if_neg he]; exact h1.1⟩⟩
  obtain ⟨g, hless⟩ := h1
  have hv : valid t = true ∧ hasS (delS R d q.1) d t = false := by
    unfold putE at he
    split at he
    · split at he
      · split at he
        · omega
        · rename_i a b; exact ⟨a, by simpa using b⟩
      · omega
    · omega
  have hno := hasS_not.1 hv.2
  rw [putS, if_pos he]
  refine ⟨ins_rise g.rise hv.2, fun r hr => ?_, by rw [ins_len]; omega, fun k hk hk2 => mem_ins.2 (Or.inr (g.left k hk hk2)), fun r hr hrd => ?_, fun m hm' => ?_, fun m hm' k hk hk2 => ?_, ?_, by rw [List.length_append]; have := h.mlen; simp; omega⟩
  · rcases mem_ins.1 hr with rfl | hr
    · exact ⟨hd, hv.1, hq2⟩
    · exact g.ok r hr
  · rcases mem_ins.1 hr with rfl | hr
    · exact Or.inl (by simp)
    · rcases g.only r hr hrd with h2 | h2
      · exact Or.inl (List.mem_append_left _ h2)
      · exact Or.inr h2
  · rcases List.mem_append.1 hm' with hm' | hm'
    · exact mem_ins.2 (Or.inr (g.made m hm'))
    · rw [List.mem_singleton.1 hm']; exact mem_ins.2 (Or.inl rfl)
  · rcases List.mem_append.1 hm' with hm' | hm'
    · exact g.off m hm' k hk hk2
    · rw [List.mem_singleton.1 hm']
      intro e
      exact hno _ (g.left k hk hk2) ⟨rfl, e.symm⟩
  · refine List.pairwise_append.2 ⟨g.apart, List.pairwise_singleton .., fun a ha b hb => ?_⟩
    rw [List.mem_singleton.1 hb]
    intro e
    exact hno _ (g.made a ha) ⟨rfl, e⟩
theorem names_apart {l : List De} (h : l.Pairwise (fun a b => a.1 ≠ b.1)) : l.Nodup := h.imp fun h e => h (by rw [e])
theorem lst_apart {S : List Rw} (h : Rise S) (d : Int) : (lstS S d).Pairwise (fun a b => a.1 ≠ b.1) := (lst_sorted h d).imp fun h e => by rw [e, blt_irrefl] at h; cases h
theorem si_end {n : Nat} {L : List De} {d : Int} {R : List Rw} {md : List De} (h : SI n L d L.length R md) : (lstS R d).length = md.length ∧ ∀ m ∈ md, getS R d m.1 = m.2 := by
  refine ⟨?_, fun m hm => getS_mem h.rise (h.made m hm)⟩
  refine List.Perm.length_eq ((List.perm_ext_iff_of_nodup (names_apart (lst_apart h.rise d)) (names_apart h.apart)).2 fun a => ⟨fun ha => ?_, fun ha => mem_lst.2 (h.made a ha)⟩)
  rcases h.only _ (mem_lst.1 ha) rfl with h1 | ⟨k, hk, hk2, _⟩
  · exact h1
  · omega

end Go.Proofs.Ytendmohjodeelaa
