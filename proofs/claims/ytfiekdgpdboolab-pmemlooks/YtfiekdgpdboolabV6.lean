import Derived.Test.YtfiekdgpdboolabV5
namespace Go.Proofs.Ytfiekdgpdboolab
open Go.RowKit Go.Maps

def bothCells (dd rr : Nat → Nat) : Obj := .cells #[.pointer (some ⟨dd 0, 0, none⟩), .pointer (some ⟨dd 1, 0, none⟩), .pointer (some ⟨dd 2, 0, none⟩), .pointer (some ⟨rr 0, 0, none⟩), .pointer (some ⟨rr 1, 0, none⟩), .pointer (some ⟨rr 2, 0, none⟩)] 115

/-- Three devices of the program and three of the document. -/
structure TrioAt (w : World) (B bb : Nat) (dd rr : Nat → Nat) (HH : Nat → Nat → Prop) (N : Int) : Prop where
  both : w.heap[bb]? = some (bothCells dd rr)
  lo : B ≤ bb
  pair : ∀ i, i < 3 → PairOK w (HH i) (dd i) (rr i) N
  apart : ∀ i j k, i < 3 → j < 3 → i ≠ j → HH i k → ¬ HH j k
  hi : ∀ i k, i < 3 → HH i k → B ≤ k ∧ k ≠ bb

theorem TrioAt.cell {w : World} {B bb : Nat} {dd rr : Nat → Nat} {HH : Nat → Nat → Prop} {N : Int} (h : TrioAt w B bb dd rr HH N) {i : Nat} (hi : i < 3) : w.cell? ⟨bb, i, none⟩ = some (.pointer (some ⟨dd i, 0, none⟩)) ∧ w.cell? ⟨bb, 3 + i, none⟩ = some (.pointer (some ⟨rr i, 0, none⟩)) := by
  have := h.both
  have h3 : i = 0 ∨ i = 1 ∨ i = 2 := by omega
  rcases h3 with rfl | rfl | rfl <;> simp [World.cell?, this, bothCells]

theorem TrioAt.kept {w w' : World} {B bb : Nat} {dd rr : Nat → Nat} {HH : Nat → Nat → Prop} {N : Int} {X : Nat → Prop} (h : TrioAt w B bb dd rr HH N) (k : Keeps X w w') (hX : ∀ i, X i → w.heap.size ≤ i) : TrioAt w' B bb dd rr HH N := {
  both := (k.block bb (heap_lt h.both) (fun hx => by have := hX _ hx; have := heap_lt h.both; omega)).trans h.both
  lo := h.lo
  pair i hi := (h.pair i hi).kept k (fun j hj hx => by have := (h.pair i hi).lt hj; have := hX j hx; omega)
  apart := h.apart
  hi := h.hi }

theorem TrioAt.step {w w' : World} {B bb : Nat} {dd rr : Nat → Nat} {HH : Nat → Nat → Prop} {N N' : Int} (h : TrioAt w B bb dd rr HH N) {i : Nat} (hi : i < 3) (hm : PairMoved (HH i) (dd i) (rr i) N' w w') (hN : N ≤ N') (hB : B ≤ w.heap.size) :
    (∃ HH', TrioAt w' B bb dd rr HH' N') ∧ Keeps (fun k => B ≤ k) w w' := by
  obtain ⟨H', h1, h2, h3⟩ := hm
  have hk : Keeps (fun k => B ≤ k) w w' := h2.mono fun k _ hk => (h.hi i k hi hk).1
  refine ⟨⟨fun j => if j = i then H' else HH j, ?_⟩, hk⟩
  have hbb : bb < w.heap.size := heap_lt h.both
  have hH' : ∀ j k, j < 3 → j ≠ i → H' k → ¬ HH j k := fun j k hj hji h4 h5 => by
    rcases h3 k h4 with h6 | h6
    · exact h.apart i j k hi hj (Ne.symm hji) h6 h5
    · have := (h.pair j hj).lt h5; omega
  exact {
    both := (h2.block bb hbb (fun hx => (h.hi i bb hi hx).2 rfl)).trans h.both
    lo := h.lo
    pair := fun j hj => by
      by_cases e : j = i
      · subst e; simpa using h1
      · simp only [if_neg e]
        exact ((h.pair j hj).kept h2 (fun k hk hx => h.apart j i k hj hi e hk hx)).more hN
    apart := fun a b k ha hb hab => by
      by_cases ea : a = i <;> by_cases eb : b = i
      · omega
      · simp only [if_pos ea, if_neg eb]; exact hH' b k hb eb
      · simp only [if_neg ea, if_pos eb]; exact fun h4 h5 => hH' a k ha ea h5 h4
      · simp only [if_neg ea, if_neg eb]; exact h.apart a b k ha hb hab
    hi := fun a k ha => by
      by_cases ea : a = i
      · simp only [if_pos ea]
        intro h4
        rcases h3 k h4 with h6 | h6
        · exact h.hi i k hi h6
        · exact ⟨by omega, by omega⟩
      · simp only [if_neg ea]; exact h.hi a k ha }

/-- A device of each takes a place. -/
theorem TrioAt.put {w w' : World} {B bb d r : Nat} {dd rr : Nat → Nat} {HH : Nat → Nat → Prop} {H : Nat → Prop} {N : Int} (h : TrioAt w B bb dd rr HH N) {i : Nat} (hi : i < 3) (hp : PairOK w H d r N) (hH : ∀ k, H k → B ≤ k ∧ k ≠ bb) (hap : ∀ j k, j < 3 → H k → ¬ HH j k)
    (hw : w' = (w.setCell ⟨bb, i, none⟩ (.pointer (some ⟨d, 0, none⟩))).setCell ⟨bb, 3 + i, none⟩ (.pointer (some ⟨r, 0, none⟩))) :
    TrioAt w' B bb (fun j => if j = i then d else dd j) (fun j => if j = i then r else rr j) (fun j => if j = i then H else HH j) N ∧ Keeps (fun k => k = bb) w w' := by
  have b1 := setCell_block (a := ⟨bb, i, none⟩) (v := .pointer (some ⟨d, 0, none⟩)) h.both rfl
  have b2 := setCell_block (a := ⟨bb, 3 + i, none⟩) (v := .pointer (some ⟨r, 0, none⟩)) b1 rfl
  have hk : Keeps (fun k => k = bb) w w' := by
    rw [hw]
    exact (Keeps.of (grownBy_setCell w ⟨bb, i, none⟩ _) (by rintro k e; cases e; exact Or.inl rfl)).step (grownBy_setCell _ ⟨bb, 3 + i, none⟩ _) (by rintro k e; cases e; exact Or.inl rfl)
  refine ⟨?_, hk⟩
  exact {
    both := by
      rw [hw, b2]
      have h3 : i = 0 ∨ i = 1 ∨ i = 2 := by omega
      rcases h3 with rfl | rfl | rfl <;> simp [bothCells]
    lo := h.lo
    pair := fun j hj => by
      by_cases e : j = i
      · subst e; simp only [if_true]; exact hp.kept hk (fun k hk2 => (hH k hk2).2)
      · simp only [if_neg e]; exact (h.pair j hj).kept hk (fun k hk2 => (h.hi j k hj hk2).2)
    apart := fun a b k ha hb hab => by
      by_cases ea : a = i <;> by_cases eb : b = i
      · omega
      · simp only [if_pos ea, if_neg eb]; exact hap b k hb
      · simp only [if_neg ea, if_pos eb]; exact fun h4 h5 => hap a k ha h5 h4
      · simp only [if_neg ea, if_neg eb]; exact h.apart a b k ha hb hab
    hi := fun a k ha => by
      by_cases ea : a = i
      · simp only [if_pos ea]; exact hH k
      · simp only [if_neg ea]; exact h.hi a k ha }

/-- A place from 0 to 2. -/
def placeOf (n : Int) : Nat := (n % 3).toNat
theorem placeOf_lt (n : Int) : placeOf n < 3 := by unfold placeOf; omega

set_option maxHeartbeats 400000 in
theorem place_any (n : Int) (w : World) : Calls Try.prog 64 #[.int .i64 n] w fun e w' => e = .returned (.int .i64 (placeOf n : Nat)) ∧ w' = w := by
  have h2 := Int.emod_lt_of_pos n (show (0 : Int) < 3 by omega)
  have h3 := Int.emod_nonneg n (by omega : (3 : Int) ≠ 0)
  have e : ((placeOf n : Nat) : Int) = n % 3 := by unfold placeOf; omega
  rw [e]
  go_enter Try.func64, Try.ntmps64
  go_wp2
  · go_ret
    exact ⟨ret_int (rem_neg (by omega) (by omega) ‹_›), rfl⟩
  · go_ret
    exact ⟨ret_int (rem_pos (by omega) ‹_›), rfl⟩

/-- New devices of both that are one to the other. -/
theorem pair_new {w w1 w2 : World} {n m : Nat} {r : Nat} (hn : n ≤ 524288) (hn8 : n = 64 * m) (h8 : m % 8 = 0) (hm : 8 ≤ m ∧ m ≤ 8192) (bs : List Int) (R : Rf) (hbl : bs.length = n) (hbb : ∀ b ∈ bs, 0 ≤ b ∧ b ≤ 255) (hrel : Rel (St.fresh bs) R)
    (h1 : w1.heap[w.heap.size]? = some (.cells (u8s bs).toArray 5 (0, 0)) ∧ w1.heap[w.heap.size + 1]? = some (.map #[] 0) ∧ w1.heap[w.heap.size + 2]? = some (devCells (.slice (some ⟨w.heap.size, 0, none⟩) n n) (.map (some (w.heap.size + 1))) 0 0 false 0))
    (h2 : ∃ F M, RefAt w2 F r R M ∧ Keeps (fun _ => False) w1 w2 ∧ ∀ k, F k → w1.heap.size ≤ k) (hN : R.now ≤ 0) : ∃ H, PairOK w2 H (w.heap.size + 2) r 0 ∧ ∀ k, H k → w.heap.size ≤ k := by
  obtain ⟨G, M, r1, r2, r3⟩ := h2
  have hd := DevAt.fresh (w := w1) (ob := w.heap.size) (bm := w.heap.size + 1) (d := w.heap.size + 2) (bs := bs) (by rw [hbl]; exact h1.2.2) h1.1 h1.2.1 (by omega) hbb
  have hsz := heap_lt h1.2.2
  refine ⟨fun k => (k = w.heap.size + 2 ∨ k = w.heap.size ∨ k = w.heap.size + 1) ∨ G k, ⟨_, G, _, _, R, M, hd.kept r2 (by simp), r1, hrel, ?_, fun k => Iff.rfl, hN⟩, ?_⟩
  · intro k h3 h4
    have := r3 k h4
    have := hd.fsz k h3
    omega
  · rintro k (h3 | h3)
    · rcases h3 with rfl | rfl | rfl <;> omega
    · have := r3 k h3; omega

end Go.Proofs.Ytfiekdgpdboolab

namespace Go.Proofs.Ytfiekdgpdboolab
open Go.RowKit Go.Maps

/-- What a call has made of the six. -/
def TrioMoved (B bb : Nat) (N : Int) (w w' : World) : Prop := (∃ dd rr HH, TrioAt w' B bb dd rr HH N) ∧ Keeps (fun k => B ≤ k) w w'

theorem both_free {w : World} {B bb : Nat} {dd rr : Nat → Nat} {HH : Nat → Nat → Prop} {N : Int} (h : TrioAt w B bb dd rr HH N) (o : Nat) : w.frozen? ⟨bb, o, none⟩ = false := by
  have := h.both
  simp [World.frozen?, this, bothCells]

/-- The second cell behind the first one's store. -/
theorem both_next {w : World} {B bb d : Nat} {dd rr : Nat → Nat} {HH : Nat → Nat → Prop} {N : Int} (h : TrioAt w B bb dd rr HH N) {i : Nat} (hi : i < 3) : (w.setCell ⟨bb, i, none⟩ (.pointer (some ⟨d, 0, none⟩))).cell? ⟨bb, 3 + i, none⟩ = some (.pointer (some ⟨rr i, 0, none⟩)) ∧ (w.setCell ⟨bb, i, none⟩ (.pointer (some ⟨d, 0, none⟩))).frozen? ⟨bb, 3 + i, none⟩ = false := by
  constructor
  · rw [setCell_other h.both (by omega)]; exact (h.cell hi).2
  · have := setCell_block (a := ⟨bb, i, none⟩) (v := .pointer (some ⟨d, 0, none⟩)) h.both rfl
    simp [World.frozen?, this]

theorem trio_put {w0 w w' : World} {B bb d r : Nat} {dd rr : Nat → Nat} {HH : Nat → Nat → Prop} {N : Int} (h : TrioAt w B bb dd rr HH N) (h0 : TrioAt w0 B bb dd rr HH N) (hk : Keeps (fun k => B ≤ k) w0 w) {i : Nat} (hi : i < 3) (hN : 0 ≤ N) (hB : B ≤ w0.heap.size)
    (hp : ∃ H, PairOK w H d r 0 ∧ ∀ k, H k → w0.heap.size ≤ k)
    (hw : w' = (w.setCell ⟨bb, i, none⟩ (.pointer (some ⟨d, 0, none⟩))).setCell ⟨bb, 3 + i, none⟩ (.pointer (some ⟨r, 0, none⟩))) : TrioMoved B bb N w0 w' := by
  obtain ⟨H, hp1, hp2⟩ := hp
  have hbb := heap_lt h0.both
  obtain ⟨q1, q2⟩ := h.put hi (hp1.more hN) (fun k hk2 => by have := hp2 k hk2; exact ⟨by omega, by omega⟩) (fun j k hj h1 h2 => by have := hp2 k h1; have := (h0.pair j hj).lt h2; omega) hw
  exact ⟨⟨_, _, _, q1⟩, hk.trans (q2.mono fun k _ e => by rw [e]; exact h0.lo)⟩

/-- The blocks of a new device. -/
theorem going_blocks (w w1 : World) (n : Nat)
    (h : w1 = ((w.alloc (.cells (List.replicate n (.int .u8 0)).toArray 5)).alloc (.map #[] 0)).alloc (devCells (.slice (some ⟨w.heap.size, 0, none⟩) n n) (.map (some (w.heap.size + 1))) 0 0 false 0)) :
    (w1.heap[w.heap.size]? = some (.cells (List.replicate n (.int .u8 0)).toArray 5 (0, 0)) ∧ w1.heap[w.heap.size + 1]? = some (.map #[] 0) ∧ w1.heap[w.heap.size + 2]? = some (devCells (.slice (some ⟨w.heap.size, 0, none⟩) n n) (.map (some (w.heap.size + 1))) 0 0 false 0)) ∧ Keeps (fun _ => False) w w1 := by
  have g1 := World.grownBy_alloc w (.cells (List.replicate n (.int .u8 0)).toArray 5) none
  have g2 := World.grownBy_alloc (w.alloc (.cells (List.replicate n (.int .u8 0)).toArray 5)) (.map #[] 0) none
  have g3 := World.grownBy_alloc ((w.alloc (.cells (List.replicate n (.int .u8 0)).toArray 5)).alloc (.map #[] 0)) (devCells (.slice (some ⟨w.heap.size, 0, none⟩) n n) (.map (some (w.heap.size + 1))) 0 0 false 0) none
  have b3 := (MapKept.heap_alloc ((w.alloc (.cells (List.replicate n (.int .u8 0)).toArray 5)).alloc (.map #[] 0)) (devCells (.slice (some ⟨w.heap.size, 0, none⟩) n n) (.map (some (w.heap.size + 1))) 0 0 false 0)).1
  have b2 := (MapKept.heap_alloc (w.alloc (.cells (List.replicate n (.int .u8 0)).toArray 5)) (.map #[] 0)).1
  have b1 := (MapKept.heap_alloc w (.cells (List.replicate n (.int .u8 0)).toArray 5)).1
  have b2' := (g3.block _ (heap_lt b2) (by simp)).trans b2
  have b1' := (g3.block _ (Nat.lt_of_lt_of_le (heap_lt b1) g2.size) (by simp)).trans ((g2.block _ (heap_lt b1) (by simp)).trans b1)
  rw [← h] at b3 b2' b1'
  have e1 : (w.alloc (.cells (List.replicate n (.int .u8 0)).toArray 5)).heap.size = w.heap.size + 1 := by simp
  have e2 : ((w.alloc (.cells (List.replicate n (.int .u8 0)).toArray 5)).alloc (.map #[] 0)).heap.size = w.heap.size + 2 := by simp
  rw [e2] at b3
  rw [e1] at b2'
  refine ⟨⟨b1', b2', b3⟩, ?_⟩
  rw [h]
  exact ((Keeps.of g1 (by simp)).step g2 (by simp)).step g3 (by simp)

set_option maxHeartbeats 4000000 in
set_option maxRecDepth 20000 in
theorem make_new (w : World) (B bb : Nat) (dd rr : Nat → Nat) (HH : Nat → Nat → Prop) (N : Int) (D a n v : Int) (pB pL : Option Addr) (lB lL cB cL : Nat) (h : TrioAt w B bb dd rr HH N) (hB : B ≤ w.heap.size) (hN : 0 ≤ N) :
    Calls Try.prog 65 #[.pointer (some ⟨bb, 0, none⟩), .agg (opCells 1 D a n v pB pL lB lL cB cL)] w fun e w' => e = .returned (.bool true) ∧ TrioMoved B bb N w w' := by
  have hkA : Keeps (fun _ => False) w (w.alloc (.cells (opCells 1 D a n v pB pL lB lL cB cL) 100)) := Keeps.of (World.grownBy_alloc w _ none) (by simp)
  obtain ⟨x0, x1, x2, x3, x4, x5, x6⟩ := op_cells (H := fun _ => False) (Keeps.refl (fun _ => False) (w.alloc (.cells (opCells 1 D a n v pB pL lB lL cB cL) 100))) (by simp)
  have HX := Hid.mk' (fun wr (k : Keeps (fun _ => False) (w.alloc (.cells (opCells 1 D a n v pB pL lB lL cB cL) 100)) wr) => op_cells (H := fun _ => False) k (by simp))
  have hpl := place_any D (w.alloc (.cells (opCells 1 D a n v pB pL lB lL cB cL) 100))
  have hi := placeOf_lt D
  generalize placeOf D = i at *
  have HT := Hid.mk' (show TrioAt w B bb dd rr HH N ∧ B ≤ w.heap.size ∧ i < 3 from ⟨h, hB, hi⟩)
  have HKA := Hid.mk' hkA
  have hi0 : (0 : Int) ≤ (i : Int) := by omega
  have hi3 : (i : Int) < 3 := by omega
  clear h hkA
  by_cases hg : 512 ≤ n ∧ n ≤ 524288 ∧ n % 512 = 0
  · obtain ⟨g1, g2, g3⟩ := hg
    obtain ⟨nn, rfl⟩ := Int.eq_ofNat_of_zero_le (show 0 ≤ n by omega)
    obtain ⟨m, hm⟩ : ∃ m : Nat, nn = 64 * m := ⟨nn / 64, by omega⟩
    have hnw := new_yes nn (w.alloc (.cells (opCells 1 D a nn v pB pL lB lL cB cL) 100)) (by omega) (by omega) (by omega)
    have HM := Hid.mk' (show nn = 64 * m ∧ 512 ≤ nn ∧ nn ≤ 524288 ∧ nn % 512 = 0 from ⟨hm, by omega, by omega, by omega⟩)
    clear hm g1 g2 g3
    go_enter Try.func65, Try.ntmps65
    go_wp2_with (first
      | (go_at_call 64; refine hpl.mono ?_; rintro e w' ⟨rfl, hw⟩; subst w'; clear hpl)
      | (go_at_call 32; refine hnw.mono ?_; rintro e w2 ⟨rfl, hw2⟩
         obtain ⟨q1, q2, q3, q4⟩ := HM.out
         have hg2 := going_blocks _ w2 nn hw2
         obtain ⟨y0, y1, y2, y3, y4, y5, y6⟩ := HX.out w2 hg2.2
         have hrn := rnew_yes (nn : Int) m w2 (by omega) (by omega) (by omega) (by omega)
         have H2 := Hid.mk' hg2
         clear hnw hw2 hg2 q1 q2 q3 q4)
      | (go_at_call 63; refine hrn.mono ?_; rintro e w3 ⟨r, rfl, hr3⟩
         have hk3 := hr3.choose_spec.choose_spec.2.1
         have ht3 := HT.out.1.kept ((HKA.out.trans H2.out.2).trans hk3) (by simp)
         obtain ⟨b1, b2⟩ := ht3.cell HT.out.2.2
         have f1 := both_free ht3 i
         obtain ⟨b3, f3⟩ := both_next (d := (w.alloc (.cells (opCells 1 D a nn v pB pL lB lL cB cL) 100)).heap.size + 2) ht3 HT.out.2.2
         rw [World.size_alloc] at b3 f3
         have H3 := Hid.mk' (show (∃ F M, RefAt w3 F r (Rf.fresh m) M ∧ Keeps (fun _ => False) w2 w3 ∧ ∀ k, F k → w2.heap.size ≤ k) ∧ TrioAt w3 B bb dd rr HH N ∧ Keeps (fun _ => False) w2 w3 from ⟨hr3, ht3, hk3⟩)
         clear hrn hr3 hk3 ht3))
    go_ret
    refine ⟨rfl, ?_⟩
    obtain ⟨q1, q2, q3, q4⟩ := HM.out
    refine trio_put H3.out.2.1 HT.out.1 ((((HKA.out.trans H2.out.2).trans H3.out.2.2)).mono fun _ _ h => h.elim) HT.out.2.2 hN hB ?_ rfl
    obtain ⟨H, p1, p2⟩ := pair_new (w := w.alloc (.cells (opCells 1 D a nn v pB pL lB lL cB cL) 100)) (n := nn) (m := m) (r := r) q3 q1 (by omega) (by omega) (List.replicate nn 0) (Rf.fresh m) (by simp) (fun b hb => by rw [List.eq_of_mem_replicate hb]; omega) (by rw [q1]; exact rel_fresh m (by omega) (by omega)) (by rw [u8s_zero]; exact H2.out.1) H3.out.1 (Int.le_refl 0)
    rw [World.size_alloc] at p1 p2
    exact ⟨H, p1, fun k hk => by have := p2 k hk; omega⟩
  · have hnw := new_no n (w.alloc (.cells (opCells 1 D a n v pB pL lB lL cB cL) 100)) hg
    have hrn := rnew_no n (w.alloc (.cells (opCells 1 D a n v pB pL lB lL cB cL) 100)) hg
    clear hg
    go_enter Try.func65, Try.ntmps65
    go_wp2_with (first
      | (go_at_call 64; refine hpl.mono ?_; rintro e w' ⟨rfl, hw⟩; subst w'; clear hpl)
      | (go_at_call 32; refine hnw.mono ?_; rintro e w' ⟨rfl, hw⟩; subst w'; clear hnw)
      | (go_at_call 63; refine hrn.mono ?_; rintro e w' ⟨rfl, hw⟩; subst w'; clear hrn))
    go_ret
    exact ⟨rfl, ⟨_, _, _, HT.out.1.kept HKA.out (by simp)⟩, HKA.out.mono fun _ _ h => h.elim⟩

end Go.Proofs.Ytfiekdgpdboolab

namespace Go.Proofs.Ytfiekdgpdboolab
open Go.RowKit Go.Maps

theorem addr_add' (b o j : Nat) : (⟨b, o, none⟩ : Addr).add j = ⟨b, o + j, none⟩ := by
  unfold Addr.add
  split
  · rename_i h; rw [h]; rfl
  · rfl

set_option maxHeartbeats 4000000 in
set_option maxRecDepth 20000 in
theorem make_load (w : World) (B bb : Nat) (dd rr : Nat → Nat) (HH : Nat → Nat → Prop) (N : Int) (D a n v : Int) (pB pL : Option Addr) (bs : List Int) (lL cB cL : Nat) (h : TrioAt w B bb dd rr HH N) (hB : B ≤ w.heap.size) (hN : 0 ≤ N)
    (hBB : BytesAt w pB bs) (hbb : ∀ b ∈ bs, 0 ≤ b ∧ b ≤ 255) (hl : bs.length ≤ 140737488351232) :
    Calls Try.prog 65 #[.pointer (some ⟨bb, 0, none⟩), .agg (opCells 2 D a n v pB pL bs.length lL cB cL)] w fun e w' => e = .returned (.bool true) ∧ TrioMoved B bb N w w' := by
  have hkA : Keeps (fun _ => False) w (w.alloc (.cells (opCells 2 D a n v pB pL bs.length lL cB cL) 100)) := Keeps.of (World.grownBy_alloc w _ none) (by simp)
  obtain ⟨x0, x1, x2, x3, x4, x5, x6⟩ := op_cells (H := fun _ => False) (Keeps.refl (fun _ => False) (w.alloc (.cells (opCells 2 D a n v pB pL bs.length lL cB cL) 100))) (by simp)
  have hcp := copyB_any _ pB cB bs (hBB.kept (X := fun _ => False) hkA (by simp)) hl
  have hpl := place_any D (w.alloc (.cells (opCells 2 D a n v pB pL bs.length lL cB cL) 100))
  have hi := placeOf_lt D
  generalize placeOf D = i at *
  have HT := Hid.mk' (show TrioAt w B bb dd rr HH N ∧ B ≤ w.heap.size ∧ i < 3 from ⟨h, hB, hi⟩)
  have HKA := Hid.mk' hkA
  have HBB := Hid.mk' (show BytesAt w pB bs ∧ (∀ b ∈ bs, 0 ≤ b ∧ b ≤ 255) from ⟨hBB, hbb⟩)
  have hi0 : (0 : Int) ≤ (i : Int) := by omega
  have hi3 : (i : Int) < 3 := by omega
  clear h hkA hBB hbb
  by_cases hg : 512 ≤ bs.length ∧ bs.length ≤ 524288 ∧ bs.length % 512 = 0
  · obtain ⟨g1, g2, g3⟩ := hg
    obtain ⟨m, hm⟩ : ∃ m : Nat, bs.length = 64 * m := ⟨bs.length / 64, by omega⟩
    have HM := Hid.mk' (show bs.length = 64 * m ∧ 512 ≤ bs.length ∧ bs.length ≤ 524288 ∧ bs.length % 512 = 0 from ⟨hm, g1, g2, g3⟩)
    clear hm g3
    go_enter Try.func65, Try.ntmps65
    go_wp2_with (first
      | (go_at_call 64; refine hpl.mono ?_; rintro e w' ⟨rfl, hw⟩; subst w'; clear hpl)
      | (go_at_call 73; refine hcp.mono ?_; rintro e w2 ⟨vi, rfl, hown, hk2⟩
         obtain ⟨pi, ci, hvi, hpi⟩ := row_form hown
         subst hvi
         obtain ⟨gi, rfl⟩ := hpi (by omega)
         have hld := load_yes ⟨gi, 0, none⟩ bs.length ci (u8s bs) w2 HM.out.2.1 HM.out.2.2.1 HM.out.2.2.2 (by simp [u8s]) (fun j v hj => by
           rw [addr_add', Nat.zero_add, hown.cellAt j (by have := (List.getElem?_eq_some_iff.1 hj).1; simp [u8s] at this; omega)]; exact hj) (by intro v hv; simp only [u8s, List.mem_map] at hv; obtain ⟨_, _, rfl⟩ := hv; rfl) (hown.lt gi rfl).2
         have H2 := Hid.mk' (show w2.ownsRow (w.alloc (.cells (opCells 2 D a n v pB pL bs.length lL cB cL) 100)).heap.size 5 1 (.slice (some ⟨gi, 0, none⟩) bs.length ci) bs.length (u8s bs) ∧ Keeps (fun _ => False) w w2 from ⟨hown, HKA.out.trans hk2⟩)
         clear hcp hown hk2 hpi x0 x1 x2 x3 x4 x5 x6)
      | (go_at_call 62; refine hld.mono ?_; rintro e w3 ⟨rfl, l1, l2, l3, l4, l5⟩
         have hk3 : Keeps (fun _ => False) w2 w3 := Keeps.of l4 (by simp)
         have hrl := rload_yes w3 pB bs.length m cB bs rfl HM.out.2.1 HM.out.2.2.1 HM.out.2.2.2 HM.out.1 HBB.out.2 (by
           obtain ⟨b, o, e1, e2, e3⟩ := (HBB.out.1.kept (H2.out.2.trans hk3) (by simp)) (by omega)
           exact ⟨b, o, e1, e2, e3⟩)
         have H3 := Hid.mk' (show (w3.heap[w2.heap.size]? = some (.cells (u8s bs).toArray 5 (0, 0)) ∧ w3.heap[w2.heap.size + 1]? = some (.map #[] 0) ∧ w3.heap[w2.heap.size + 2]? = some (devCells (.slice (some ⟨w2.heap.size, 0, none⟩) bs.length bs.length) (.map (some (w2.heap.size + 1))) 0 0 false 0)) ∧ Keeps (fun _ => False) w2 w3 from ⟨⟨l1, l2, l3⟩, hk3⟩)
         clear hld l1 l2 l3 l4 l5 hk3)
      | (go_at_call 74; refine hrl.mono ?_; rintro e w4 ⟨r, rfl, hr4⟩
         have hk4 := hr4.choose_spec.choose_spec.2.1
         have hk24 := H3.out.2.trans hk4
         have hsm := sameB_yes w4 (some ⟨gi, 0, none⟩) pB ci cB bs (bytesAt_row (hk24.row H2.out.1 (by simp)) rfl) (HBB.out.1.kept (H2.out.2.trans hk24) (by simp)) hl
         have H4 := Hid.mk' (show (∃ F M, RefAt w4 F r (Rf.load m bs) M ∧ Keeps (fun _ => False) w3 w4 ∧ ∀ k, F k → w3.heap.size ≤ k) ∧ Keeps (fun _ => False) w2 w4 from ⟨hr4, hk24⟩)
         clear hrl hr4 hk4 hk24)
      | (go_at_call 38; refine hsm.mono ?_; rintro e w5 ⟨rfl, qq, hw5⟩
         have HW5 := Hid.mk' (H4.out.2.trans (keeps_drewN' (fun _ => False) _ _ _ hw5))
         have HW45 := Hid.mk' (keeps_drewN' (fun _ => False) _ _ _ hw5)
         clear hsm hw5))
    have HGI : Hid (w.heap.size ≤ gi ∧ gi < w2.heap.size) := by
      have h7 := H2.out.1.lt gi rfl
      rw [World.size_alloc] at h7
      exact ⟨by omega, h7.2⟩
    go_loopw [12] (fun i wr => ∃ k : Nat, k ≤ bs.length ∧ i = .int .i64 k ∧ Hid (OwnB gi bs.length wr ∧ Keeps (fun j => j = gi) w5 wr)) (fun i _ => bs.length - (intOf i).toNat)
    case atStart => exact ⟨0, by omega, rfl, (ownB_row H2.out.1 rfl).kept HW5.out (by simp), Keeps.refl _ _⟩
    case round =>
      obtain ⟨k, hk, rfl, hrel⟩ := hrel
      by_cases hlt : k < bs.length
      · obtain ⟨x, hx⟩ := hrel.out.1.cell hlt
        have hfz := hrel.out.1.free k
        have hlt' : (k : Int) < (bs.length : Int) := by omega
        have hk0 : (0 : Int) ≤ (k : Int) := by omega
        go_wp2
        go_roundw
        case rel => exact ⟨k + 1, by omega, by go_num, hrel.out.1.set k _, hrel.out.2.step (grownBy_setCell wr ⟨gi, k, none⟩ _) (by rintro j e; cases e; exact Or.inl rfl)⟩
        case measure => simp [intOf]; omega
      · obtain rfl : k = bs.length := by omega
        have hkW : Keeps (fun j => w.heap.size ≤ j) w wr := ((H2.out.2.trans HW5.out).mono fun _ _ h => h.elim).trans (hrel.out.2.mono fun j _ e => by rw [e]; exact HGI.out.1)
        have ht6 := HT.out.1.kept hkW (fun i hi => hi)
        obtain ⟨b1, b2⟩ := ht6.cell HT.out.2.2
        have f1 := both_free ht6 i
        obtain ⟨b3, f3⟩ := both_next (d := w2.heap.size + 2) ht6 HT.out.2.2
        have hlt' : ¬ (bs.length : Int) < (bs.length : Int) := by omega
        have H6 := Hid.mk' (show TrioAt wr B bb dd rr HH N ∧ Keeps (fun j => w.heap.size ≤ j) w wr ∧ Keeps (fun j => j = gi) w5 wr from ⟨ht6, hkW, hrel.out.2⟩)
        clear hrel ht6 hkW hlt hk
        go_wp2
        go_ret
        refine ⟨rfl, ?_⟩
        obtain ⟨q1, q2, q3, q4⟩ := HM.out
        refine trio_put H6.out.1 HT.out.1 (H6.out.2.1.mono fun j _ h => Nat.le_trans hB h) HT.out.2.2 hN hB ?_ rfl
        obtain ⟨H, p1, p2⟩ := pair_new (w := w2) (n := bs.length) (m := m) (r := r) q3 q1 (by omega) (by omega) bs (Rf.load m bs) rfl HBB.out.2 (rel_load m bs q1 (by omega) (by omega)) H3.out.1 H4.out.1 (Int.le_refl 0)
        have p3 := (p1.kept HW45.out (by simp)).kept H6.out.2.2 (fun j hj e => by have := p2 j hj; have := HGI.out.2; omega)
        exact ⟨H, p3, fun k hk => Nat.le_trans H2.out.2.size (p2 k hk)⟩
  · have hld := fun p c w => load_no p bs.length c w hg
    have hrl := fun w => rload_no w pB bs.length cB hg
    clear hg
    go_enter Try.func65, Try.ntmps65
    go_wp2_with (first
      | (go_at_call 64; refine hpl.mono ?_; rintro e w' ⟨rfl, hw⟩; subst w'; clear hpl)
      | (go_at_call 73; refine hcp.mono ?_; rintro e w2 ⟨vi, rfl, hown, hk2⟩
         obtain ⟨pi, ci, hvi, hpi⟩ := row_form hown
         subst hvi
         have hsm := sameB_yes w2 pi pB ci cB bs (bytesAt_row hown rfl) (HBB.out.1.kept (HKA.out.trans hk2) (by simp)) hl
         have H2 := Hid.mk' (show w2.ownsRow (w.alloc (.cells (opCells 2 D a n v pB pL bs.length lL cB cL) 100)).heap.size 5 1 (.slice pi bs.length ci) bs.length (u8s bs) ∧ Keeps (fun _ => False) w w2 from ⟨hown, HKA.out.trans hk2⟩)
         have HPI := Hid.mk' hpi
         clear hcp hown hk2 hpi x0 x1 x2 x3 x4 x5 x6)
      | (go_at_call 62; refine (hld _ _ _).mono ?_; rintro e w' ⟨rfl, hw⟩; subst w'; clear hld)
      | (go_at_call 74; refine (hrl _).mono ?_; rintro e w' ⟨rfl, hw⟩; subst w'; clear hrl)
      | (go_at_call 38; refine hsm.mono ?_; rintro e w5 ⟨rfl, qq, hw5⟩
         have HW5 := Hid.mk' (keeps_drewN' (fun _ => False) _ _ _ hw5)
         clear hsm hw5))
    go_loopw [12] (fun i wr => ∃ k : Nat, k ≤ bs.length ∧ i = .int .i64 k ∧ Hid (∃ g, (0 < bs.length → pi = some ⟨g, 0, none⟩) ∧ (0 < bs.length → OwnB g bs.length wr ∧ w.heap.size ≤ g) ∧ Keeps (fun j => 0 < bs.length ∧ j = g) w5 wr)) (fun i _ => bs.length - (intOf i).toNat)
    case atStart =>
      refine ⟨0, by omega, rfl, ?_⟩
      by_cases h0 : 0 < bs.length
      · obtain ⟨g, hg⟩ := HPI.out h0
        refine ⟨g, fun _ => hg, fun _ => ⟨?_, ?_⟩, Keeps.refl _ _⟩
        · have := ownB_row (g := g) (by have := H2.out.1; rw [hg] at this; exact this) rfl
          exact this.kept HW5.out (by simp)
        · have := (H2.out.1.lt g (by rw [hg]; rfl)).1
          rw [World.size_alloc] at this; omega
      · exact ⟨0, fun h => absurd h h0, fun h => absurd h h0, Keeps.refl _ _⟩
    case round =>
      obtain ⟨k, hk, rfl, hrel⟩ := hrel
      by_cases hlt : k < bs.length
      · obtain ⟨g, hg1, hg2, hg3⟩ := hrel
        obtain rfl := hg1 (by omega)
        obtain ⟨o1, o2⟩ := hg2 (by omega)
        obtain ⟨x, hx⟩ := o1.cell hlt
        have hfz := o1.free k
        have hlt' : (k : Int) < (bs.length : Int) := by omega
        have hk0 : (0 : Int) ≤ (k : Int) := by omega
        have HO := Hid.mk' (show OwnB g bs.length wr ∧ w.heap.size ≤ g ∧ Keeps (fun j => 0 < bs.length ∧ j = g) w5 wr from ⟨o1, o2, hg3⟩)
        clear o1 o2 hg1 hg2 hg3
        go_wp2
        go_roundw
        case rel =>
          exact ⟨k + 1, by omega, by go_num, g, fun _ => rfl, fun _ => ⟨HO.out.1.set k _, HO.out.2.1⟩, HO.out.2.2.step (grownBy_setCell wr ⟨g, k, none⟩ _) (by rintro j e; cases e; exact Or.inl ⟨by omega, rfl⟩)⟩
        case measure => simp [intOf]; omega
      · obtain rfl : k = bs.length := by omega
        have HREL := hrel
        have hlt' : ¬ (bs.length : Int) < (bs.length : Int) := by omega
        clear hrel
        go_wp2
        go_ret
        refine ⟨rfl, ?_⟩
        obtain ⟨g, hg1, hg2, hg3⟩ := HREL
        have hkW : Keeps (fun j => w.heap.size ≤ j) w wr := ((H2.out.2.trans HW5.out).mono fun _ _ h => h.elim).trans (hg3.mono fun j _ e => by rw [e.2]; exact (hg2 e.1).2)
        exact ⟨⟨_, _, _, HT.out.1.kept hkW (fun i hi => hi)⟩, hkW.mono fun j _ h => Nat.le_trans hB h⟩

end Go.Proofs.Ytfiekdgpdboolab
