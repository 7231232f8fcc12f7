import Derived.Test.YtfiekdgpdboolacV4
namespace Go.Proofs.Ytfiekdgpdboolac
open Go.RowKit Go.Maps

theorem PairMoved.before {w w2 w4 : World} {H : Nat → Prop} {d r : Nat} {N : Int} (k : Keeps (fun _ => False) w w2) (h : PairMoved H d r N w2 w4) : PairMoved H d r N w w4 := by
  obtain ⟨H', h1, h2, h3⟩ := h
  refine ⟨H', h1, (k.mono fun _ _ h => h.elim).trans h2, fun i hi => ?_⟩
  rcases h3 i hi with h | h
  · exact Or.inl h
  · exact Or.inr (Nat.le_trans k.size h)

/-- Bytes of one's own, in a block that no device has. -/
def OwnB (g n : Nat) (w : World) : Prop := ∃ cur, w.heap[g]? = some (.cells cur 5 (0, 0)) ∧ ∀ j, j < n → ∃ x, cur[j]? = some (.int .u8 x)

theorem ownB_row {w : World} {base n c g : Nat} {bs : List Int} (h : w.ownsRow base 5 1 (.slice (some ⟨g, 0, none⟩) n c) n (u8s bs)) (hn : bs.length = n) : OwnB g n w := by
  rcases h.2 with ⟨e1, _⟩ | ⟨g', cp, cur, e1, _, hh, q1, q2, q3, q4⟩
  · cases e1
  · cases e1
    refine ⟨cur, hh, fun j hj => ⟨bs.getD j 0, ?_⟩⟩
    have h1 := h.cellAt j (by omega)
    simp only [World.cell?, hh] at h1
    have h2 : (u8s bs)[j]? = some (.int .u8 (bs.getD j 0)) := by
      have hj' : j < bs.length := by omega
      simp [u8s, List.getD_eq_getElem?_getD, hj']
    rw [h2] at h1
    exact h1

theorem OwnB.cell {g n : Nat} {w : World} (h : OwnB g n w) {j : Nat} (hj : j < n) : ∃ x, w.cell? ⟨g, j, none⟩ = some (.int .u8 x) := by
  obtain ⟨cur, h1, h2⟩ := h
  obtain ⟨x, hx⟩ := h2 j hj
  exact ⟨x, by simp [World.cell?, h1, hx]⟩
theorem OwnB.free {g n : Nat} {w : World} (h : OwnB g n w) (j : Nat) : w.frozen? ⟨g, j, none⟩ = false := by
  obtain ⟨cur, h1, h2⟩ := h
  simp [World.frozen?, h1]
theorem OwnB.set {g n : Nat} {w : World} (h : OwnB g n w) (k : Nat) (v : Int) : OwnB g n (w.setCell ⟨g, k, none⟩ (.int .u8 v)) := by
  obtain ⟨cur, h1, h2⟩ := h
  have e := setCell_block (a := ⟨g, k, none⟩) (v := .int .u8 v) h1 rfl
  refine ⟨_, e, fun j hj => ?_⟩
  obtain ⟨x, hx⟩ := h2 j hj
  obtain ⟨hl, _⟩ := Array.getElem?_eq_some_iff.1 hx
  by_cases hjk : k = j
  · subst hjk
    exact ⟨v, by simp [Array.getElem?_setIfInBounds_self_of_lt hl]⟩
  · exact ⟨x, by rw [Array.getElem?_setIfInBounds_ne hjk]; exact hx⟩
theorem OwnB.kept {g n : Nat} {w w' : World} {X : Nat → Prop} (h : OwnB g n w) (k : Keeps X w w') (hX : ¬ X g) : OwnB g n w' := by
  obtain ⟨cur, h1, h2⟩ := h
  exact ⟨cur, (k.block g (heap_lt h1) hX).trans h1, h2⟩

/-- The devices behind a write into a block that they don't have. -/
theorem pair_own {w w2 w4 w5 : World} {H : Nat → Prop} {d r g : Nat} {N : Int} (k : Keeps (fun _ => False) w w2) (h : PairMoved H d r N w2 w4) (hg : w.heap.size ≤ g) (hg2 : g < w2.heap.size) (hH : ∀ i, H i → i < w.heap.size) (k5 : Keeps (fun i => i = g) w4 w5) : PairMoved H d r N w w5 := by
  obtain ⟨H', h1, h2, h3⟩ := h
  have hn : ∀ i, H' i → ¬ i = g := by
    rintro i hi rfl
    rcases h3 i hi with h | h
    · have := hH i h; omega
    · omega
  refine ⟨H', h1.kept k5 hn, ?_, fun i hi => ?_⟩
  · have a : Keeps (fun i => H i ∨ w.heap.size ≤ i) w w4 := ((k.mono fun _ _ h => h.elim).trans h2).mono fun _ _ h => Or.inl h
    have b : Keeps (fun i => H i ∨ w.heap.size ≤ i) w4 w5 := k5.mono fun i _ e => by subst e; exact Or.inr hg
    exact (a.trans b).mono fun i hi h => h.resolve_right (by omega)
  · rcases h3 i hi with h | h
    · exact Or.inl h
    · exact Or.inr (Nat.le_trans k.size h)

theorem pair_none {w w2 w4 w5 : World} {H : Nat → Prop} {d r : Nat} {N : Int} (k : Keeps (fun _ => False) w w2) (h : PairMoved H d r N w2 w4) (k5 : Keeps (fun _ => False) w4 w5) : PairMoved H d r N w w5 := by
  obtain ⟨H', h1, h2, h3⟩ := PairMoved.before k h
  exact ⟨H', h1.kept k5 (by simp), h2.trans (k5.mono fun _ _ h => h.elim), h3⟩

end Go.Proofs.Ytfiekdgpdboolac

namespace Go.Proofs.Ytfiekdgpdboolac
open Go.RowKit Go.Maps

set_option maxHeartbeats 4000000 in
set_option maxRecDepth 20000 in
/-- Write of both: one answer; what is handed in stays, and may be written over. -/
theorem steps_write2 (w : World) (H : Nat → Prop) (d r : Nat) (N : Int) (D a n v : Int) (pB pL : Option Addr) (bs : List Int) (lL cB cL : Nat) (h : PairOK w H d r N) (hN : N ≤ 50000000)
    (hBB : BytesAt w pB bs) (hbb : ∀ b ∈ bs, 0 ≤ b ∧ b ≤ 255) (hnH : 0 < bs.length → ∀ b o, pB = some ⟨b, o, none⟩ → ¬ H b) (hl : bs.length ≤ 140737488351232) :
    Calls Try.prog 14 #[.pointer (some ⟨d, 0, none⟩), .pointer (some ⟨r, 0, none⟩), .agg (opCells 8 D a n v pB pL bs.length lL cB cL)] w fun e w' => e = .returned (.bool true) ∧ PairMoved H d r (N + 65536) w w' := by
  have hlt : ∀ i, H i → i ≠ w.heap.size := fun i hi => by have := h.lt hi; omega
  have HHL : Hid (∀ i, H i → i < w.heap.size) := fun i hi => h.lt hi
  obtain ⟨F, G, S, L, R, M, h1, h2, h3, h4, h5, h6⟩ := h
  have hkA : Keeps (fun _ => False) w (w.alloc (.cells (opCells 8 D a n v pB pL bs.length lL cB cL) 32)) := Keeps.of (World.grownBy_alloc w _ none) (by simp)
  have d1 := h1.kept hkA (by simp)
  have d2 := h2.kept hkA (by simp)
  have hcp := copyB_any _ pB cB bs (hBB.kept (X := fun _ => False) hkA (by simp)) hl
  obtain ⟨x0, x1, x2, x3, x4, x5, x6⟩ := op_cells (H := H) (Keeps.refl H (w.alloc (.cells (opCells 8 D a n v pB pL bs.length lL cB cL) 32))) hlt
  have HX := Hid.mk' (fun wr (k : Keeps H (w.alloc (.cells (opCells 8 D a n v pB pL bs.length lL cB cL) 32)) wr) => op_cells (H := H) k hlt)
  have HKA := Hid.mk' hkA
  have HBB := Hid.mk' (show BytesAt w pB bs ∧ (0 < bs.length → ∀ b o, pB = some ⟨b, o, none⟩ → ¬ H b) from ⟨hBB, hnH⟩)
  have HALL := Hid.mk' (show DevAt (w.alloc (.cells (opCells 8 D a n v pB pL bs.length lL cB cL) 32)) F d S L ∧ RefAt (w.alloc (.cells (opCells 8 D a n v pB pL bs.length lL cB cL) 32)) G r R M ∧ Rel S R ∧ (∀ k, F k → ¬ G k) ∧ (∀ k, H k ↔ F k ∨ G k) ∧ R.now ≤ N from ⟨d1, d2, h3, h4, h5, h6⟩)
  have HST := Hid.mk' (show S.steps ≤ 50000000 ∧ R.now ≤ 50000000 from ⟨by rw [h3.steps]; omega, by omega⟩)
  have hcase : (R.writeBad a bs.length ≠ 0) ∨ (R.writeBad a bs.length = 0 ∧ ∃ (l : List Int) (t : Nat), laidB l = bs ∧ bs.length = 8 * l.length ∧ (∀ i, i < l.length → 0 ≤ l.getD i 0 ∧ l.getD i 0 < 18446744073709551616) ∧ a = ((8 * t : Nat) : Int) ∧ t + l.length ≤ 8 * R.n) := by
    by_cases hb : R.writeBad a bs.length = 0
    · refine Or.inr ⟨hb, ?_⟩
      unfold Rf.writeBad at hb
      split at hb
      · rename_i hin
        split at hb
        · rename_i h8
          simp [insideB] at hin
          obtain ⟨l, q1, q2, q3⟩ := bytes_laid bs hbb h8.2
          exact ⟨l, (a / 8).toNat, q1, q2, q3, by omega, by omega⟩
        · omega
      · omega
    · exact Or.inl hb
  clear hkA h1 h2 h3 h4 h5 d1 d2 hlt hBB hbb hnH
  rcases hcase with hbad | ⟨_, l, t, q1, q2, q3, rfl, q5⟩
  · have hz : (R.writeBad a bs.length == R.writeBad a bs.length) = true := by simp
    go_enter Try.func14, Try.ntmps14
    go_wp2_with (first
      | (go_at_call 19; refine hcp.mono ?_; rintro e w2 ⟨vi, rfl, hown, hk2⟩
         obtain ⟨pi, ci, hvi, hpi⟩ := row_form hown
         subst hvi
         have hcapi : bs.length ≤ ci := by
           rcases hown.2 with ⟨e1, e2⟩ | ⟨g, cp, cur, e1, _, _, q1', _⟩
           · omega
           · cases e1; exact q1'
         obtain ⟨y0, y1, y2, y3, y4, y5, y6⟩ := HX.out w2 (hk2.mono fun _ _ h => h.elim)
         have e1 := HALL.out.1.kept hk2 (by simp)
         have e2 := HALL.out.2.1.kept hk2 (by simp)
         have hwp := write_badp w2 F d S L R a pi bs.length ci e1 HALL.out.2.2.1 hbad
         have hrp := rwrite_bad w2 G r R M a pB bs.length cB e2 hbad (by omega)
         have hsm := sameB_yes w2 pi pB ci cB bs (bytesAt_row hown rfl) (HBB.out.1.kept (HKA.out.trans hk2) (by simp)) hl
         generalize R.writeBad a bs.length = bw at *
         have H2 := Hid.mk' (show w2.ownsRow (w.alloc (.cells (opCells 8 D a n v pB pL bs.length lL cB cL) 32)).heap.size 5 1 (.slice pi bs.length ci) bs.length (u8s bs) ∧ Keeps (fun _ => False) (w.alloc (.cells (opCells 8 D a n v pB pL bs.length lL cB cL) 32)) w2 ∧ DevAt w2 F d S L ∧ RefAt w2 G r R M from ⟨hown, hk2, e1, e2⟩)
         have HPI := Hid.mk' hpi
         clear hcp hown hk2 e1 e2 hpi x0 x1 x2 x3 x4 x5 x6)
      | (go_at_call 31; refine hwp.mono ?_; rintro e w' ⟨rfl, hw⟩; subst w'; clear hwp)
      | (go_at_call 32; refine hrp.mono ?_; rintro e w' ⟨rfl, hw⟩; subst w'; clear hrp)
      | (go_at_call 22; refine hsm.mono ?_; rintro e w5 ⟨rfl, qq, hw5⟩
         have HW5 := Hid.mk' (keeps_drewN' (fun _ => False) _ _ _ hw5)
         clear hsm hw5))
    have HPM : Hid (PairMoved H d r (N + 65536) w2 w2) := by
      obtain ⟨q1, q2, q3, q4, q5, q6⟩ := HALL.out
      exact ⟨H, ⟨F, G, S, L, R, M, H2.out.2.2.1, H2.out.2.2.2, q3, q4, q5, by omega⟩, Keeps.refl _ _, fun _ hk => Or.inl hk⟩
    go_loopw [10] (fun i wr => ∃ k : Nat, k ≤ bs.length ∧ i = .int .i64 k ∧ Hid (∃ g, (0 < bs.length → pi = some ⟨g, 0, none⟩) ∧ (0 < bs.length → OwnB g bs.length wr ∧ w.heap.size ≤ g ∧ g < w2.heap.size) ∧ Keeps (fun j => 0 < bs.length ∧ j = g) w5 wr)) (fun i _ => bs.length - (intOf i).toNat)
    case atStart =>
      refine ⟨0, by omega, rfl, ?_⟩
      by_cases h0 : 0 < bs.length
      · obtain ⟨g, hg⟩ := HPI.out h0
        refine ⟨g, fun _ => hg, fun _ => ⟨?_, ?_, ?_⟩, Keeps.refl _ _⟩
        · have := ownB_row (g := g) (by have := H2.out.1; rw [hg] at this; exact this) rfl
          exact this.kept HW5.out (by simp)
        · have := (H2.out.1.lt g (by rw [hg]; rfl)).1
          simp at this; omega
        · exact (H2.out.1.lt g (by rw [hg]; rfl)).2
      · exact ⟨0, fun h => absurd h h0, fun h => absurd h h0, Keeps.refl _ _⟩
    case round =>
      obtain ⟨k, hk, rfl, hrel⟩ := hrel
      by_cases hlt : k < bs.length
      · obtain ⟨g, hg1, hg2, hg3⟩ := hrel
        obtain rfl := hg1 (by omega)
        obtain ⟨o1, o2, o3⟩ := hg2 (by omega)
        obtain ⟨x, hx⟩ := o1.cell hlt
        have hfz := o1.free k
        have hlt' : (k : Int) < (bs.length : Int) := by omega
        have hk0 : (0 : Int) ≤ (k : Int) := by omega
        have HO := Hid.mk' (show OwnB g bs.length wr ∧ w.heap.size ≤ g ∧ g < w2.heap.size ∧ Keeps (fun j => 0 < bs.length ∧ j = g) w5 wr from ⟨o1, o2, o3, hg3⟩)
        clear o1 o2 o3 hg1 hg2 hg3
        go_wp2
        go_roundw
        case rel =>
          refine ⟨k + 1, by omega, by go_num, g, fun _ => rfl, fun _ => ⟨HO.out.1.set k _, HO.out.2.1, HO.out.2.2.1⟩, HO.out.2.2.2.step (grownBy_setCell wr ⟨g, k, none⟩ _) (by rintro j e; cases e; exact Or.inl ⟨by omega, rfl⟩)⟩
        case measure => simp [intOf]; omega
      · obtain rfl : k = bs.length := by omega
        have HREL := hrel
        clear hrel
        go_wp2
        go_ret
        refine ⟨ret_bool (by simp), ?_⟩
        obtain ⟨g, hg1, hg2, hg3⟩ := HREL
        by_cases h0 : 0 < bs.length
        · obtain ⟨o1, o2, o3⟩ := hg2 h0
          exact pair_own (HKA.out.trans H2.out.2.1) HPM.out o2 o3 HHL.out ((HW5.out.mono fun _ _ h => h.elim).trans (hg3.mono fun j _ h => h.2))
        · exact pair_none (HKA.out.trans H2.out.2.1) HPM.out (HW5.out.trans (hg3.mono fun j _ h => absurd h.1 h0))
  · have hb8 : bs.length = 8 * l.length := q2
    obtain ⟨s1, s2⟩ := rel_stores l S R t HALL.out.2.2.1 q5
    have hsn := stores_now l R ((8 * t : Nat) : Int)
    have hnb := HALL.out.2.2.1.nb
    have hnow := HALL.out.2.2.2.2.2
    obtain ⟨Z, Q, hZQ⟩ : ∃ Z Q, R.stores ((8 * t : Nat) : Int) l = (Z, Q) := ⟨_, _, rfl⟩
    rw [hZQ] at s1 s2 hsn
    simp only at s1 s2 hsn
    have HZ := Hid.mk' (show R.stores ((8 * t : Nat) : Int) l = (Z, Q) ∧ Rel (runStores S ((8 * t : Nat) : Int) l).2 Q ∧ Q.now ≤ N + 65536 from ⟨hZQ, s2, by omega⟩)
    clear s2 hsn hZQ
    have HL := Hid.mk' (show laidB l = bs ∧ bs.length = 8 * l.length ∧ (∀ i, i < l.length → 0 ≤ l.getD i 0 ∧ l.getD i 0 < 18446744073709551616) ∧ t + l.length ≤ 8 * R.n from ⟨q1, q2, q3, q5⟩)
    have HS1 := Hid.mk' s1
    clear q1 q2 q3 q5 s1 hb8 hnb hnow
    go_enter Try.func14, Try.ntmps14
    go_wp2_with (first
      | (go_at_call 19; refine hcp.mono ?_; rintro e w2 ⟨vi, rfl, hown, hk2⟩
         obtain ⟨pi, ci, hvi, hpi⟩ := row_form hown
         subst hvi
         have hcapi : bs.length ≤ ci := by
           rcases hown.2 with ⟨e1, e2⟩ | ⟨g, cp, cur, e1, _, _, q1', _⟩
           · omega
           · cases e1; exact q1'
         obtain ⟨y0, y1, y2, y3, y4, y5, y6⟩ := HX.out w2 (hk2.mono fun _ _ h => h.elim)
         have e1 := HALL.out.1.kept hk2 (by simp)
         have e2 := HALL.out.2.1.kept hk2 (by simp)
         obtain ⟨q1, q2, q3, q5⟩ := HL.out
         have s1 := HS1.out
         have hwp := write_big w2 F d S L ((8 * t : Nat) : Int) pi ci l e1 (by omega) (fun h0 => by
           obtain ⟨g, hg⟩ := hpi (by omega)
           subst hg
           refine ⟨g, rfl, fun hf => ?_, (hown.lt g rfl).2, fun i hi => ?_⟩
           · have := HALL.out.1.fsz g hf
             have := (hown.lt g rfl).1
             omega
           · rw [hown.cellAt i (by omega), q1]
             have hi2 : i < bs.length := by omega
             simp [u8s, List.getD_eq_getElem?_getD, hi2]) q3 (by omega) (by omega) (by rw [HALL.out.2.2.1.len]; omega) (by have := HST.out.1; omega)
         rw [← q2, s1] at hwp
         have H2 := Hid.mk' (show w2.ownsRow (w.alloc (.cells (opCells 8 D ((8 * t : Nat) : Int) n v pB pL bs.length lL cB cL) 32)).heap.size 5 1 (.slice pi bs.length ci) bs.length (u8s bs) ∧ Keeps (fun _ => False) (w.alloc (.cells (opCells 8 D ((8 * t : Nat) : Int) n v pB pL bs.length lL cB cL) 32)) w2 ∧ DevAt w2 F d S L ∧ RefAt w2 G r R M from ⟨hown, hk2, e1, e2⟩)
         have HPI := Hid.mk' hpi
         clear hcp hown hk2 e1 e2 hpi q1 q2 q3 q5 s1 x0 x1 x2 x3 x4 x5 x6)
      | (go_at_call 31; refine hwp.mono ?_; rintro e w3 ⟨rfl, hx3⟩
         have hk3 := hx3.choose_spec.choose_spec.2.1
         obtain ⟨y0, y1, y2, y3, y4, y5, y6⟩ := HX.out w3 ((H2.out.2.1.mono fun _ _ h => h.elim).trans (hk3.mono fun k _ h => (HALL.out.2.2.2.2.1 k).2 (Or.inl h)))
         obtain ⟨q1, q2, q3, q5⟩ := HL.out
         have hrp := rwrite_off w3 G r R M ((8 * t : Nat) : Int) pB cB l (H2.out.2.2.2.kept hk3 (fun i hi hf => HALL.out.2.2.2.1 i hf hi)) (fun h0 => by
           obtain ⟨b, o, hb1, hb2, hb3⟩ := (HBB.out.1.kept (HKA.out.trans H2.out.2.1) (by simp)) (by omega)
           have hnb := HBB.out.2 (by omega) b o hb1
           refine ⟨b, o, hb1, fun hg => hnb ((HALL.out.2.2.2.2.1 b).2 (Or.inr hg)), Nat.lt_of_lt_of_le hb2 hk3.size, fun i hi => ?_⟩
           rw [q1]
           exact hk3.cell (hb3 i (by omega)) (fun hf => hnb ((HALL.out.2.2.2.2.1 b).2 (Or.inl hf)))) q3 (by omega) (by omega) (by omega) (by have := HST.out.2; omega)
         rw [← q2, HZ.out.1] at hrp
         have H3 := Hid.mk' (show Moved F d w2 w3 _ ∧ Keeps F w2 w3 from ⟨hx3, hk3⟩)
         clear hwp hx3 hk3 q1 q2 q3 q5)
      | (go_at_call 32; refine hrp.mono ?_; rintro e w4 ⟨rfl, hx4⟩
         have hk4 := hx4.choose_spec.choose_spec.2.1
         have hk24 : Keeps H w2 w4 := (H3.out.2.mono fun k _ h => (HALL.out.2.2.2.2.1 k).2 (Or.inl h)).trans (hk4.mono fun k _ h => (HALL.out.2.2.2.2.1 k).2 (Or.inr h))
         obtain ⟨y0, y1, y2, y3, y4, y5, y6⟩ := HX.out w4 ((H2.out.2.1.mono fun _ _ h => h.elim).trans hk24)
         have hrow4 := hk24.row H2.out.1 (fun g hg hh => by have h7 := (H2.out.1.lt g hg).1; have h8 := HHL.out g hh; rw [World.size_alloc] at h7; omega)
         have hsm := sameB_yes w4 pi pB ci cB bs (bytesAt_row hrow4 rfl) (fun h0 => by
           obtain ⟨b, o, hb1, hb2, hb3⟩ := (HBB.out.1.kept (HKA.out.trans H2.out.2.1) (by simp)) h0
           exact ⟨b, o, hb1, Nat.lt_of_lt_of_le hb2 hk24.size, fun i hi => hk24.cell (hb3 i hi) (HBB.out.2 h0 b o hb1)⟩) hl
         have H4 := Hid.mk' (show RMoved G r w3 w4 Q ∧ Keeps H w2 w4 from ⟨hx4, hk24⟩)
         clear hrp hx4 hk4 hk24 hrow4)
      | (go_at_call 22; refine hsm.mono ?_; rintro e w5 ⟨rfl, qq, hw5⟩
         have HW5 := Hid.mk' (keeps_drewN' (fun _ => False) _ _ _ hw5)
         clear hsm hw5))
    have HPM : Hid (PairMoved H d r (N + 65536) w2 w4) := by
      obtain ⟨q1, q2, q3, q4, q5, q6⟩ := HALL.out
      exact pair_step (Keeps.refl _ _) H2.out.2.2.2 H2.out.2.2.1.fsz q4 q5 H3.out.1 H4.out.1 HZ.out.2.1 HZ.out.2.2
    go_loopw [10] (fun i wr => ∃ k : Nat, k ≤ bs.length ∧ i = .int .i64 k ∧ Hid (∃ g, (0 < bs.length → pi = some ⟨g, 0, none⟩) ∧ (0 < bs.length → OwnB g bs.length wr ∧ w.heap.size ≤ g ∧ g < w2.heap.size) ∧ Keeps (fun j => 0 < bs.length ∧ j = g) w5 wr)) (fun i _ => bs.length - (intOf i).toNat)
    case atStart =>
      refine ⟨0, by omega, rfl, ?_⟩
      by_cases h0 : 0 < bs.length
      · obtain ⟨g, hg⟩ := HPI.out h0
        refine ⟨g, fun _ => hg, fun _ => ⟨?_, ?_, ?_⟩, Keeps.refl _ _⟩
        · have := ownB_row (g := g) (by have := H2.out.1; rw [hg] at this; exact this) rfl
          exact (this.kept H4.out.2 (fun hh => by have h7 := (H2.out.1.lt g (by rw [hg]; rfl)).1; have h8 := HHL.out g hh; rw [World.size_alloc] at h7; omega)).kept HW5.out (by simp)
        · have := (H2.out.1.lt g (by rw [hg]; rfl)).1
          simp at this; omega
        · exact (H2.out.1.lt g (by rw [hg]; rfl)).2
      · exact ⟨0, fun h => absurd h h0, fun h => absurd h h0, Keeps.refl _ _⟩
    case round =>
      obtain ⟨k, hk, rfl, hrel⟩ := hrel
      by_cases hlt : k < bs.length
      · obtain ⟨g, hg1, hg2, hg3⟩ := hrel
        obtain rfl := hg1 (by omega)
        obtain ⟨o1, o2, o3⟩ := hg2 (by omega)
        obtain ⟨x, hx⟩ := o1.cell hlt
        have hfz := o1.free k
        have hlt' : (k : Int) < (bs.length : Int) := by omega
        have hk0 : (0 : Int) ≤ (k : Int) := by omega
        have HO := Hid.mk' (show OwnB g bs.length wr ∧ w.heap.size ≤ g ∧ g < w2.heap.size ∧ Keeps (fun j => 0 < bs.length ∧ j = g) w5 wr from ⟨o1, o2, o3, hg3⟩)
        clear o1 o2 o3 hg1 hg2 hg3
        go_wp2
        go_roundw
        case rel =>
          refine ⟨k + 1, by omega, by go_num, g, fun _ => rfl, fun _ => ⟨HO.out.1.set k _, HO.out.2.1, HO.out.2.2.1⟩, HO.out.2.2.2.step (grownBy_setCell wr ⟨g, k, none⟩ _) (by rintro j e; cases e; exact Or.inl ⟨by omega, rfl⟩)⟩
        case measure => simp [intOf]; omega
      · obtain rfl : k = bs.length := by omega
        have HREL := hrel
        clear hrel
        go_wp2
        go_ret
        refine ⟨ret_bool (by simp), ?_⟩
        obtain ⟨g, hg1, hg2, hg3⟩ := HREL
        by_cases h0 : 0 < bs.length
        · obtain ⟨o1, o2, o3⟩ := hg2 h0
          exact pair_own (HKA.out.trans H2.out.2.1) HPM.out o2 o3 HHL.out ((HW5.out.mono fun _ _ h => h.elim).trans (hg3.mono fun j _ h => h.2))
        · exact pair_none (HKA.out.trans H2.out.2.1) HPM.out (HW5.out.trans (hg3.mono fun j _ h => absurd h.1 h0))


end Go.Proofs.Ytfiekdgpdboolac
