import Derived.Test.YtfiekdgpdboolabA4
import Derived.Deep.AppendLies
namespace Go.Proofs.Ytfiekdgpdboolab
open Go.RowKit Go.Maps

theorem info30 : (Try.prog.info? 47).map (fun i => (i.zero, i.size, i.bytes)) = some (some (.int .u64 0), 1, 8) := by kernel_rfl

/-- A pending word's block. -/
def pendCells (sv : Value) (mk : Int) : Obj := .cells #[sv, .int .i64 mk] 86 (0, 0)

theorem pend_cells {w : World} {p : Nat} {sv : Value} {mk : Int} (h : w.heap[p]? = some (pendCells sv mk)) :
    w.cell? ⟨p, 0, none⟩ = some sv ∧ w.cell? ⟨p, 1, none⟩ = some (.int .i64 mk) ∧ (∀ i, w.frozen? ⟨p, i, none⟩ = false) := by
  simp [World.cell?, World.frozen?, h, pendCells]

/-- The slice at the head of block g. -/
def headSlice (g k cap : Nat) : Value := .slice (some ⟨g, 0, none⟩) k cap

theorem row_ne {w : World} {g k cap p : Nat} {xs : List Value} {c : Array Value} {t : TypeId} {f : Nat × Nat} (hrow : w.ownsRow 0 47 1 (.slice (some ⟨g, 0, none⟩) k cap) k xs) (hp : w.heap[p]? = some (.cells c t f)) (ht : t ≠ 47) : g ≠ p := by
  rintro rfl
  rcases hrow.2 with ⟨e1, _⟩ | ⟨g', cp, cur, e1, _, hgg, _⟩
  · cases e1
  · cases e1
    rw [hp] at hgg; simp at hgg; exact ht hgg.2.1
theorem row_ne_map {w : World} {g k cap p n : Nat} {xs : List Value} {D : DataW Unit} (hrow : w.ownsRow 0 47 1 (.slice (some ⟨g, 0, none⟩) k cap) k xs) (hp : w.ownsMap Try.prog 3 ptrElem p n D) : g ≠ p := by
  rintro rfl
  obtain ⟨es, cl, hb, _⟩ := hp
  rcases hrow.2 with ⟨e1, _⟩ | ⟨g', cp, cur, e1, _, hgg, _⟩
  · cases e1
  · cases e1
    rw [hb] at hgg; simp at hgg
theorem row_lt {w : World} {g k cap : Nat} {xs : List Value} (hrow : w.ownsRow 0 47 1 (.slice (some ⟨g, 0, none⟩) k cap) k xs) : g < w.heap.size := (hrow.lt g rfl).2

set_option maxHeartbeats 800000 in
set_option maxRecDepth 20000 in
/-- Store at a word that has news. -/
theorem store_old (d n cap : Nat) (ob : Option Addr) (bm nn p k g gc : Nat) (at_ v : Int) (room steps lf mk : Int) (ar : Bool) (D : DataW Unit) (xs : List Value) (w : World)
    (h : w.heap[d]? = some (devCells (.slice ob n cap) (.map (some bm)) room steps ar lf)) (hbad : badWord n at_ = 0) (hwf : (Lit.int .i64 at_).wf = true)
    (hs : 0 ≤ steps) (hs' : steps ≤ 1000000000000) (hl : 0 ≤ lf) (hl' : lf ≤ 9223372036854775807) (live : ¬ (ar = true ∧ lf = 0))
    (hmap : w.ownsMap Try.prog 3 ptrElem bm nn D) (hat : ∀ z, D.atKey (.int .i64 at_) z = .lit (.int .i64 p))
    (hp : w.heap[p]? = some (pendCells (.slice (some ⟨g, 0, none⟩) k gc) mk)) (hrow : w.ownsRow 0 47 1 (.slice (some ⟨g, 0, none⟩) k gc) k xs) (hk : k ≤ 1000000000) :
    Calls Try.prog 35 #[.pointer (some ⟨d, 0, none⟩), .int .i64 at_, .int .u64 v] w fun e w' => e = .returned (.int .i64 0) ∧
      ∃ g' gc', w'.heap[d]? = some (devCells (.slice ob n cap) (.map (some bm)) room (steps + 1) ar (tick ar lf)) ∧ w'.heap[p]? = some (pendCells (.slice (some ⟨g', 0, none⟩) (k + 1) gc') mk) ∧
        w'.ownsRow 0 47 1 (.slice (some ⟨g', 0, none⟩) (k + 1) gc') (k + 1) (xs ++ [.int .u64 v]) ∧ (g' = g ∨ w.heap.size ≤ g') ∧
        Keeps (fun i => i = d ∨ i = p ∨ i = g) w w' := by
  obtain ⟨c0, c1, c2, c3, c4, c5, c6⟩ := dev_cells h
  obtain ⟨i0, hi, hz0, hz1, hz2⟩ := info_parts info30
  have hpd : p ≠ d := by rintro rfl; rw [h] at hp; simp [devCells, pendCells] at hp
  have hbd : bm ≠ d := by rintro rfl; obtain ⟨es, cl, hb, _⟩ := hmap; rw [h] at hb; simp [devCells] at hb
  have HH : Hid (w.heap[d]? = some (devCells (.slice ob n cap) (.map (some bm)) room steps ar lf)) := h
  have HP : Hid (w.heap[p]? = some (pendCells (.slice (some ⟨g, 0, none⟩) k gc) mk)) := hp
  have hst := step_live d _ _ room steps lf ar w h hs hs' hl hl' live
  have hcw := checkWord_any d n cap ob at_ w c0
  rw [hbad] at hcw
  have HST := hst
  clear h hst hbad hp hl hl' live hs hs' c2 c3 c4 c5 c6
  go_enter Try.func35, Try.ntmps35
  go_wp2_with (first
    | (go_at_call 57; refine hcw.mono ?_; rintro e w' ⟨rfl, hw⟩; subst w')
    | (go_at_call 40; refine HST.mono ?_; rintro e w1 ⟨rfl, hd1, hg1, hs1⟩
       have H1 : Hid (w1.heap[d]? = some (devCells (.slice ob n cap) (.map (some bm)) room (steps + 1) ar (tick ar lf)) ∧ w.grownBy w1 (some d) ∧ w1.heap.size = w.heap.size) := ⟨hd1, hg1, hs1⟩
       have cc1 := (dev_cells hd1).2.1
       have hm1 := hmap.kept hg1 (by simp [hbd])
       have hp1 : w1.heap[p]? = some (pendCells (.slice (some ⟨g, 0, none⟩) k gc) mk) := (hg1.block p (Array.getElem?_eq_some_iff.1 HP.out).1 (by simp [hpd])).trans HP.out
       have HP1 : Hid (w1.heap[p]? = some (pendCells (.slice (some ⟨g, 0, none⟩) k gc) mk)) := hp1
       obtain ⟨pc0, pc1, pf⟩ := pend_cells hp1
       have hrow1 := hrow.kept hg1 (Or.inr (by have := row_ne hrow HH.out (by decide); simpa [Value.ownBlock] using this))
       clear hd1 hg1 hs1 hp1)
    | (at_lookup; refine wpList_lookup_ptr _ rfl _ _ rfl bm nn D rfl hm1 at_ rfl hwf p hat ?_)
    | (at_builtin; refine wpList_append_lies _ rfl _ _ 22 rfl 0 47 i0 (.int .u64 0) 1 8 Try.underlying22 hi hz0 hz1 hz2 rfl (by decide) (.slice (some ⟨g, 0, none⟩) k gc) k xs rfl (hrow1.alloc _) ⟨w1.heap.size, 0, none⟩ 1 1 [.int .u64 v] rfl rfl (cell_one_new _ _ _) (by simp [Value.oneCell']) (by decide) (by unfold maxLen; omega) (by omega) (Nat.zero_le _) (w1.heap.size + 1) (by simp) ?_; intro g' gc' w2 hown2 hgrow2 hloc2 hlt2
       have hp2 : w2.heap[p]? = some (pendCells (.slice (some ⟨g, 0, none⟩) k gc) mk) := (hgrow2.block p (by have := (Array.getElem?_eq_some_iff.1 HP1.out).1; simp; omega) (by have := row_ne hrow1 HP1.out (by decide); simpa [Value.ownBlock] using Ne.symm this)).trans ((Below.heap_alloc _ _ _ (Array.getElem?_eq_some_iff.1 HP1.out).1).trans HP1.out)
       have HP2 : Hid (w2.heap[p]? = some (pendCells (.slice (some ⟨g, 0, none⟩) k gc) mk)) := hp2
       have HL : Hid (g' = g ∨ g' = w1.heap.size + 1) := by
         rcases hloc2 with h1 | h1
         · left; simpa [Value.ownBlock] using h1.symm
         · right; exact h1
       obtain ⟨q0, q1, qf⟩ := pend_cells hp2
       clear hp2 hloc2 hlt2))
  go_ret
  obtain ⟨hd1, hg1, hs1⟩ := H1.out
  have hdl := (Array.getElem?_eq_some_iff.1 hd1).1
  refine ⟨rfl, g', gc', ?_, ?_, ?_, ?_, ?_⟩
  · rw [Below.heap_setCell _ _ _ _ (Ne.symm hpd)]
    exact (hgrow2.block d (by simp; omega) (by have := row_ne hrow1 hd1 (by decide); simpa [Value.ownBlock] using Ne.symm this)).trans ((Below.heap_alloc _ _ _ hdl).trans hd1)
  · have := setCell_block (a := ⟨p, 0, none⟩) (v := .slice (some ⟨g', 0, none⟩) (k + 1) gc') HP2.out rfl
    simpa [pendCells] using this
  · refine hown2.kept (grownBy_setCell w2 ⟨p, 0, none⟩ _) (Or.inr ?_)
    have := row_ne hown2 HP2.out (by decide)
    simpa [Value.ownBlock] using this
  · rcases HL.out with h1 | h1
    · exact Or.inl h1
    · exact Or.inr (by omega)
  · refine (((Keeps.of hg1 (by simp)).step (World.grownBy_alloc w1 _ none) (by simp)).step hgrow2 (by simp [Value.ownBlock])).step (grownBy_setCell w2 ⟨p, 0, none⟩ _) (by simp)

set_option maxHeartbeats 800000 in
set_option maxRecDepth 20000 in
/-- Store at a word that has no news. -/
theorem store_new (d n cap : Nat) (ob : Option Addr) (bm nn : Nat) (at_ v : Int) (room steps lf : Int) (ar : Bool) (D : DataW Unit) (w : World)
    (h : w.heap[d]? = some (devCells (.slice ob n cap) (.map (some bm)) room steps ar lf)) (hbad : badWord n at_ = 0) (hwf : (Lit.int .i64 at_).wf = true)
    (hs : 0 ≤ steps) (hs' : steps ≤ 1000000000000) (hl : 0 ≤ lf) (hl' : lf ≤ 9223372036854775807) (live : ¬ (ar = true ∧ lf = 0))
    (hmap : w.ownsMap Try.prog 3 ptrElem bm nn D) (hat : ∀ z, D.atKey (.int .i64 at_) z = z) (hnn : nn ≤ 1000000000) :
    Calls Try.prog 35 #[.pointer (some ⟨d, 0, none⟩), .int .i64 at_, .int .u64 v] w fun e w' => e = .returned (.int .i64 0) ∧
      ∃ g' gc', w'.heap[d]? = some (devCells (.slice ob n cap) (.map (some bm)) room (steps + 1) ar (tick ar lf)) ∧ w'.heap[w.heap.size]? = some (pendCells (.slice (some ⟨g', 0, none⟩) 1 gc') 0) ∧
        w'.ownsRow 0 47 1 (.slice (some ⟨g', 0, none⟩) 1 gc') 1 [.int .u64 v] ∧ w.heap.size ≤ g' ∧ w'.ownsMap Try.prog 3 ptrElem bm (nn + 1) (D.put (.int .i64 at_) (.lit (.int .i64 w.heap.size))) ∧
        Keeps (fun i => i = d ∨ i = bm) w w' := by
  obtain ⟨c0, c1, c2, c3, c4, c5, c6⟩ := dev_cells h
  obtain ⟨i0, hi, hz0, hz1, hz2⟩ := info_parts info30
  have hbd : bm ≠ d := by rintro rfl; obtain ⟨es, cl, hb, _⟩ := hmap; rw [h] at hb; simp [devCells] at hb
  have hbl : bm < w.heap.size := hmap.lt
  have HH : Hid (w.heap[d]? = some (devCells (.slice ob n cap) (.map (some bm)) room steps ar lf)) := h
  have hst := step_live d _ _ room steps lf ar w h hs hs' hl hl' live
  have hcw := checkWord_any d n cap ob at_ w c0
  rw [hbad] at hcw
  have HST := hst
  clear h hst hbad hl hl' live hs hs' c2 c3 c4 c5 c6
  go_enter Try.func35, Try.ntmps35
  go_wp2_with (first
    | (go_at_call 57; refine hcw.mono ?_; rintro e w' ⟨rfl, hw⟩; subst w')
    | (go_at_call 40; refine HST.mono ?_; rintro e w1 ⟨rfl, hd1, hg1, hs1⟩
       have H1 : Hid (w1.heap[d]? = some (devCells (.slice ob n cap) (.map (some bm)) room (steps + 1) ar (tick ar lf)) ∧ w.grownBy w1 (some d) ∧ w1.heap.size = w.heap.size) := ⟨hd1, hg1, hs1⟩
       have cc1 := (dev_cells hd1).2.1
       have hm1 := hmap.kept hg1 (by simp [hbd])
       have hbl1 : bm < w1.heap.size := hm1.lt
       have hdl1 : d < w1.heap.size := (Array.getElem?_eq_some_iff.1 hd1).1
       clear hd1 hg1 hs1)
    | (at_lookup; refine wpList_lookup_none _ rfl _ _ rfl bm nn D rfl hm1 at_ rfl hwf hat ?_)
    | (at_mapUpdate; go_must (refine wpList_mapUpdate_own _ rfl _ _ _ 73 rfl 3 84 keyLaw Try.underlying73 ptrElem bm nn D rfl (hm1.alloc _) (by unfold maxLen; omega) (.int .i64 at_) (.pointer (some ⟨w1.heap.size, 0, none⟩)) (.int .i64 at_) rfl rfl (keyOf_int_mk Try.underlying3 hwf) (.lit (.int .i64 w1.heap.size)) [] rfl ?_); intro w2 hm2 hg2
       have hp2 : w2.heap[w1.heap.size]? = some (pendCells (.slice none 0 0) 0) := (hg2.block w1.heap.size (by simp) (by simp; omega)).trans (MapKept.heap_alloc w1 _).1
       have HP2 : Hid (w2.heap[w1.heap.size]? = some (pendCells (.slice none 0 0) 0)) := hp2
       have hz2' : w1.heap.size < w2.heap.size := (Array.getElem?_eq_some_iff.1 hp2).1
       obtain ⟨pc0, pc1, pf⟩ := pend_cells hp2
       clear hp2)
    | (at_builtin; go_must (refine wpList_append_lies _ rfl _ _ 22 rfl 0 47 i0 (.int .u64 0) 1 8 Try.underlying22 hi hz0 hz1 hz2 rfl (by decide) (.slice none 0 0) 0 [] rfl (World.ownsRow_nil _ _ _ _) ⟨w2.heap.size, 0, none⟩ 1 1 [.int .u64 v] rfl rfl (cell_one_new _ _ _) (by simp [Value.oneCell']) (by decide) (by unfold maxLen; omega) (by omega) (Nat.zero_le _) (w2.heap.size + 1) (by simp) ?_); intro g' gc' w3 hown3 hgrow3 hloc3 hlt3
       have hp3 : w3.heap[w1.heap.size]? = some (pendCells (.slice none 0 0) 0) := (hgrow3.block _ (by simp; omega) (by simp [Value.ownBlock])).trans ((Below.heap_alloc _ _ _ hz2').trans HP2.out)
       have HP3 : Hid (w3.heap[w1.heap.size]? = some (pendCells (.slice none 0 0) 0)) := hp3
       have HL : Hid (g' = w2.heap.size + 1) := by
         rcases hloc3 with h1 | h1
         · simp [Value.ownBlock] at h1
         · exact h1
       obtain ⟨q0, q1, qf⟩ := pend_cells hp3
       clear hp3 hloc3 hlt3))
  go_ret
  obtain ⟨hd1, hg1, hs1⟩ := H1.out
  have hg' := HL.out
  have hk2 : w1.grownBy w2 (some bm) := grownBy_trans (World.grownBy_alloc w1 _ (some bm)) hg2
  have hk3 : w2.grownBy w3 none := grownBy_trans (World.grownBy_alloc w2 _ none) hgrow3
  have hk4 := grownBy_setCell w3 ⟨w1.heap.size, 0, none⟩ (.slice (some ⟨g', 0, none⟩) 1 gc')
  refine ⟨rfl, g', gc', ?_, ?_, ?_, by omega, ?_, ?_⟩
  · rw [Below.heap_setCell _ _ _ _ (by simp; omega)]
    exact (hk3.block d (by omega) (by simp)).trans ((hk2.block d hdl1 (by simp; omega)).trans hd1)
  · rw [← hs1]
    have := setCell_block (a := ⟨w1.heap.size, 0, none⟩) (v := .slice (some ⟨g', 0, none⟩) 1 gc') HP3.out rfl
    simpa [pendCells] using this
  · refine hown3.kept hk4 (Or.inr ?_)
    simp [Value.ownBlock]; omega
  · rw [← hs1]
    exact (hm2.kept hk3 (by simp)).kept hk4 (by simp; omega)
  · exact (((Keeps.of hg1 (by simp)).step hk2 (by simp)).step hk3 (by simp)).step hk4 (by simp; omega)

end Go.Proofs.Ytfiekdgpdboolab
