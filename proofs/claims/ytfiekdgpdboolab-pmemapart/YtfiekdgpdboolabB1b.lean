import Derived.Test.YtfiekdgpdboolabB1
namespace Go.Proofs.Ytfiekdgpdboolab
open Go.RowKit Go.Maps

theorem Hid.mk' {p : Prop} (h : p) : Hid p := h

theorem Keeps.ranges {X : Nat → Prop} {a b : World} {H : Type} {P : Program} {k : TypeId} {R : Value → Option (DataW H × List MemPlace)} {bm r n : Nat} {D : DataW H} {left : Lit → Bool} {cnt : Nat} (hk : Keeps X a b)
    (h : a.ranges P k R bm r n D left cnt) (h1 : ¬ X bm) (h2 : ¬ X r) : b.ranges P k R bm r n D left cnt := by
  have l1 := h.owns.lt
  have l2 := h.lt
  obtain ⟨es, clock, since, seen, c0, hb, F, hs, hD, hr, rest⟩ := h
  exact ⟨es, clock, since, seen, c0, (hk.block bm l1 h1).trans hb, F, hs, hD, (hk.block r l2 h2).trans hr, rest⟩

/-- Behind the round's lay, Delete and the two stores. -/
theorem fence_parts {w3 w4 wx : World} {F : Nat → Prop} {d : Nat} {S : St} {L : Lay} (h : DevAt w3 F d S L) (x : Int) (hp : S.pd x ≠ []) (j k xn : Nat) (v : Int) (cs : List Value)
    (h4 : w4.heap[L.ob]? = some (.cells (splice (u8s S.old) xn (wordCells v)).toArray 5 (0, 0)) ∧ w3.grownBy w4 (some L.ob))
    (hx : wx.heap[L.pp x]? = some (pendCells (.slice (some ⟨L.gg x, 0, none⟩) (k - (j + 1)) (L.cp x)) ((j : Int) + 1)) ∧
      wx.ownsRow 0 47 1 (.slice (some ⟨L.gg x, 0, none⟩) (k - (j + 1)) (L.cp x)) (k - (j + 1)) cs ∧ Keeps (fun i => i = L.pp x ∨ i = L.gg x) w4 wx) :
    (wx.setCell ⟨L.pp x, 1, none⟩ (.int .i64 0)).heap[L.ob]? = some (.cells (splice (u8s S.old) xn (wordCells v)).toArray 5 (0, 0)) ∧
    (wx.setCell ⟨L.pp x, 1, none⟩ (.int .i64 0)).heap[L.pp x]? = some (pendCells (.slice (some ⟨L.gg x, 0, none⟩) (k - (j + 1)) (L.cp x)) 0) ∧
    (wx.setCell ⟨L.pp x, 1, none⟩ (.int .i64 0)).ownsRow 0 47 1 (.slice (some ⟨L.gg x, 0, none⟩) (k - (j + 1)) (L.cp x)) (k - (j + 1)) cs ∧
    Keeps (fun i => i = L.ob ∨ i = L.pp x ∨ i = L.gg x) w3 (wx.setCell ⟨L.pp x, 1, none⟩ (.int .i64 0)) := by
  have n1 := h.p_ne_ob hp
  have n2 := h.g_ne_ob hp
  have n3 := h.g_ne_p hp hp
  refine ⟨?_, ?_, ?_, ?_⟩
  · rw [Below.heap_setCell _ _ _ _ (Ne.symm n1), hx.2.2.block _ (heap_lt h4.1) (by simp [Ne.symm n1, Ne.symm n2])]
    exact h4.1
  · have := setCell_block (a := ⟨L.pp x, 1, none⟩) (v := .int .i64 0) hx.1 rfl
    simpa [pendCells] using this
  · exact hx.2.1.kept (grownBy_setCell wx ⟨L.pp x, 1, none⟩ _) (Or.inr (by simpa [Value.ownBlock] using n3))
  · have k1 : Keeps (fun i => i = L.ob ∨ i = L.pp x ∨ i = L.gg x) w3 w4 := Keeps.of h4.2 (by rintro i e; cases e; exact Or.inl (Or.inl rfl))
    have k2 : Keeps (fun i => i = L.ob ∨ i = L.pp x ∨ i = L.gg x) w4 wx := hx.2.2.mono (by rintro i _ (rfl | rfl) <;> simp)
    exact (k1.trans k2).step (grownBy_setCell wx ⟨L.pp x, 1, none⟩ _) (by rintro i e; cases e; exact Or.inl (Or.inr (Or.inl rfl)))

/-- The device behind the round. -/
theorem fence_round {w3 w8 : World} {F : Nat → Prop} {d : Nat} {S : St} {L : Lay} (T : Int → Bool) (h : DevAt w3 F d (S.fenced T) L) (xn : Nat) (hT : T xn = true) (hp : S.pd xn ≠ []) (j : Nat) (hj : S.ms xn = j + 1) (D' : DataW Unit)
    (hob : w8.heap[L.ob]? = some (.cells (splice (u8s (S.fenced T).old) xn (wordCells ((S.pd xn).getD j 0))).toArray 5 (0, 0)))
    (hpe : w8.heap[L.pp xn]? = some (pendCells (.slice (some ⟨L.gg xn, 0, none⟩) ((S.pd xn).length - (j + 1)) (L.cp xn)) 0))
    (hrow : w8.ownsRow 0 47 1 (.slice (some ⟨L.gg xn, 0, none⟩) ((S.pd xn).length - (j + 1)) (L.cp xn)) ((S.pd xn).length - (j + 1)) ((u64s (S.pd xn)).drop (j + 1)))
    (hk : Keeps (fun i => i = L.ob ∨ i = L.pp xn ∨ i = L.gg xn ∨ i = L.bm) w3 w8)
    (hmap : w8.ownsMap Try.prog 3 ptrElem L.bm L.nn D') (hD : D' = if (S.pd xn).length - (j + 1) = 0 then L.D.del (.int .i64 xn) else L.D) :
    DevAt w8 F d (S.fenced (less T xn)) { L with D := D' } := by
  have e1 : (S.fenced T).pd xn = S.pd xn := by simp [St.fenced, hT]
  have e2 : (S.fenced T).ms xn = S.ms xn := by simp [St.fenced, hT]
  have hp1 : (S.fenced T).pd xn ≠ [] := by rw [e1]; exact hp
  have hdom := h.dom xn hp1
  rw [fenced_len] at hdom
  rw [← fenced_settle S T xn hT (by omega) hdom.1 hdom.2.1 hdom.2.2]
  refine h.settled xn hp1 (by rw [e2]; omega) D' hk ?_ ?_ ?_ hmap ?_
  · rw [e1, e2, hj]; simpa using hob
  · rw [e1, e2, hj]; exact hpe
  · rw [e1, e2, hj]
    have : u64s ((S.pd (xn : Int)).drop (j + 1)) = (u64s (S.pd (xn : Int))).drop (j + 1) := by simp [u64s, List.map_drop]
    rw [this]; exact hrow
  · intro b z
    rw [e1, e2, hj, hD]
    have hdr : (S.pd (xn : Int)).drop (j + 1) = [] ↔ (S.pd (xn : Int)).length - (j + 1) = 0 := by
      rw [List.drop_eq_nil_iff]; omega
    by_cases h0 : (S.pd (xn : Int)).length - (j + 1) = 0
    · rw [if_pos h0]
      by_cases hb : b = xn
      · subst hb
        rw [if_pos ⟨rfl, hdr.2 h0⟩, atKey_del_same]
      · rw [if_neg (by simp [hb]), atKey_del_other (by intro e; cases e; exact hb rfl)]
    · rw [if_neg h0, if_neg (by rw [hdr]; simp [h0])]

theorem DevAt.all_ne {w : World} {F : Nat → Prop} {d : Nat} {S : St} {L : Lay} (h : DevAt w F d S L) {x : Int} (hp : S.pd x ≠ []) : L.ob ≠ L.bm ∧ L.pp x ≠ L.bm ∧ L.gg x ≠ L.bm ∧ L.ob ≠ d ∧ L.pp x ≠ d ∧ L.gg x ≠ d ∧ L.bm ≠ d :=
  ⟨Ne.symm h.ob_ne_bm, h.p_ne_bm hp, h.g_ne_bm hp, h.d_ne_ob, h.p_ne_d hp, h.g_ne_d hp, h.d_ne_bm⟩

end Go.Proofs.Ytfiekdgpdboolab
