import Derived.Test.YtfiekdgpdboolabV6
namespace Go.Proofs.Ytfiekdgpdboolab
open Go.RowKit Go.Maps

def ptTo (b : Bool) (d : Nat) : Value := if b then .pointer (some ⟨d, 0, none⟩) else .pointer none
def bothTo (k : Nat) (dd rr : Nat → Nat) : Obj := .cells #[ptTo (decide (0 < k)) (dd 0), ptTo (decide (1 < k)) (dd 1), ptTo (decide (2 < k)) (dd 2), ptTo (decide (0 < k)) (rr 0), ptTo (decide (1 < k)) (rr 1), ptTo (decide (2 < k)) (rr 2)] 115

/-- The first k devices of each. -/
structure SomeAt (w0 w : World) (k bb : Nat) (dd rr : Nat → Nat) (HH : Nat → Nat → Prop) : Prop where
  both : w.heap[bb]? = some (bothTo k dd rr)
  pair : ∀ i, i < k → PairOK w (HH i) (dd i) (rr i) 0
  apart : ∀ i j x, i < k → j < k → i ≠ j → HH i x → ¬ HH j x
  hi : ∀ i x, i < k → HH i x → bb < x
  keeps : Keeps (fun _ => False) w0 w
  bbs : w0.heap.size = bb

theorem SomeAt.next {w0 w w3 w' : World} {k bb d r : Nat} {dd rr : Nat → Nat} {HH : Nat → Nat → Prop} {H : Nat → Prop} (h : SomeAt w0 w k bb dd rr HH) (hk : k < 3) (k3 : Keeps (fun _ => False) w w3) (hp : PairOK w3 H d r 0) (hH : ∀ x, H x → w.heap.size ≤ x)
    (hw : w' = (w3.setCell ⟨bb, k, none⟩ (.pointer (some ⟨d, 0, none⟩))).setCell ⟨bb, 3 + k, none⟩ (.pointer (some ⟨r, 0, none⟩))) :
    SomeAt w0 w' (k + 1) bb (fun j => if j = k then d else dd j) (fun j => if j = k then r else rr j) (fun j => if j = k then H else HH j) := by
  have hb3 := (k3.block bb (heap_lt h.both) (by simp)).trans h.both
  have hbb := heap_lt h.both
  have b1 := setCell_block (a := ⟨bb, k, none⟩) (v := .pointer (some ⟨d, 0, none⟩)) hb3 rfl
  have b2 := setCell_block (a := ⟨bb, 3 + k, none⟩) (v := .pointer (some ⟨r, 0, none⟩)) b1 rfl
  have hkk : Keeps (fun x => x = bb) w3 w' := by
    rw [hw]
    exact (Keeps.of (grownBy_setCell w3 ⟨bb, k, none⟩ _) (by rintro k e; cases e; exact Or.inl rfl)).step (grownBy_setCell _ ⟨bb, 3 + k, none⟩ _) (by rintro k e; cases e; exact Or.inl rfl)
  exact {
    both := by
      rw [hw, b2]
      have h3 : k = 0 ∨ k = 1 ∨ k = 2 := by omega
      rcases h3 with rfl | rfl | rfl <;> simp [bothTo, ptTo]
    pair := fun j hj => by
      by_cases e : j = k
      · subst e; simp only [if_true]
        exact hp.kept hkk (fun x hx e => by have := hH x hx; omega)
      · simp only [if_neg e]
        exact ((h.pair j (by omega)).kept k3 (by simp)).kept hkk (fun x hx e => by have := h.hi j x (by omega) hx; omega)
    apart := fun a b x ha hb hab => by
      by_cases ea : a = k <;> by_cases eb : b = k
      · omega
      · simp only [if_pos ea, if_neg eb]
        intro h1 h2
        have := hH x h1
        have := (h.pair b (by omega)).lt h2
        omega
      · simp only [if_neg ea, if_pos eb]
        intro h1 h2
        have := hH x h2
        have := (h.pair a (by omega)).lt h1
        omega
      · simp only [if_neg ea, if_neg eb]; exact h.apart a b x (by omega) (by omega) hab
    hi := fun a x ha => by
      by_cases ea : a = k
      · simp only [if_pos ea]
        intro h1
        have := hH x h1
        omega
      · simp only [if_neg ea]; exact h.hi a x (by omega)
    keeps := by
      have a : Keeps (fun x => w0.heap.size ≤ x) w0 w3 := (h.keeps.trans k3).mono fun _ _ h => h.elim
      exact (a.trans (hkk.mono fun x _ e => by rw [e, h.bbs]; exact Nat.le_refl _)).mono fun x hx h => by omega
    bbs := h.bbs }

set_option maxHeartbeats 4000000 in
set_option maxRecDepth 20000 in
theorem begin_ok (w : World) : Calls Try.prog 53 #[] w fun e w' => e = .returned (.tuple #[.pointer (some ⟨w.heap.size, 0, none⟩), .bool true]) ∧ (∃ dd rr HH, TrioAt w' w.heap.size w.heap.size dd rr HH 0) ∧ Keeps (fun _ => False) w w' := by
  go_enter Try.func53, Try.ntmps53
  go_wp2
  go_loopw [3] (fun i wr => ∃ k : Nat, k ≤ 3 ∧ i = .int .i64 k ∧ Hid (∃ dd rr HH, SomeAt w wr k w.heap.size dd rr HH)) (fun i _ => 3 - (intOf i).toNat)
  case atStart =>
    refine ⟨0, by omega, rfl, fun _ => 0, fun _ => 0, fun _ _ => False, ?_, by omega, by omega, by omega, Keeps.of (World.grownBy_alloc w _ none) (by simp), rfl⟩
    have := (MapKept.heap_alloc w (.cells #[.pointer none, .pointer none, .pointer none, .pointer none, .pointer none, .pointer none] 115)).1
    simpa [bothTo, ptTo] using this
  case round =>
    obtain ⟨k, hk, rfl, hrel⟩ := hrel
    obtain ⟨dd, rr, HH, hs⟩ := hrel
    by_cases hlt : k < 3
    · have hlt' : (k : Int) < 3 := by omega
      have hk0 : (0 : Int) ≤ (k : Int) := by omega
      have hnw := new_yes 512 wr (by omega) (by omega) (by omega)
      have HS := Hid.mk' hs
      clear hs
      go_wp2_with (first
        | (go_at_call 32; refine hnw.mono ?_; rintro e w2 ⟨rfl, hw2⟩
           have hg2 := going_blocks _ w2 512 hw2
           have hrn := rnew_yes (512 : Int) 8 w2 (by omega) (by omega) (by omega) (by omega)
           have H2 := Hid.mk' hg2
           clear hnw hw2 hg2)
        | (go_at_call 63; refine hrn.mono ?_; rintro e w3 ⟨r, rfl, hr3⟩
           have hk3 := hr3.choose_spec.choose_spec.2.1
           have k03 := H2.out.2.trans hk3
           have hb3 := (k03.block w.heap.size (heap_lt HS.out.both) (by simp)).trans HS.out.both
           have f1 : ∀ o, w3.frozen? ⟨w.heap.size, o, none⟩ = false := fun o => by simp [World.frozen?, hb3, bothTo]
           have f2 := f1 k
           obtain ⟨z1, c1⟩ : ∃ z, w3.cell? ⟨w.heap.size, k, none⟩ = some z := by
             have h3 : k = 0 ∨ k = 1 ∨ k = 2 := by omega
             rcases h3 with rfl | rfl | rfl <;> simp [World.cell?, hb3, bothTo]
           obtain ⟨z2, c2⟩ : ∃ z, w3.cell? ⟨w.heap.size, 3 + k, none⟩ = some z := by
             have h3 : k = 0 ∨ k = 1 ∨ k = 2 := by omega
             rcases h3 with rfl | rfl | rfl <;> simp [World.cell?, hb3, bothTo]
           have c3 : (w3.setCell ⟨w.heap.size, k, none⟩ (.pointer (some ⟨wr.heap.size + 2, 0, none⟩))).cell? ⟨w.heap.size, 3 + k, none⟩ = some z2 := by rw [setCell_other hb3 (by omega)]; exact c2
           have f3 : (w3.setCell ⟨w.heap.size, k, none⟩ (.pointer (some ⟨wr.heap.size + 2, 0, none⟩))).frozen? ⟨w.heap.size, 3 + k, none⟩ = false := by
             have := setCell_block (a := ⟨w.heap.size, k, none⟩) (v := .pointer (some ⟨wr.heap.size + 2, 0, none⟩)) hb3 rfl
             simp [World.frozen?, this]
           have H3 := Hid.mk' (show (∃ F M, RefAt w3 F r (Rf.fresh 8) M ∧ Keeps (fun _ => False) w2 w3 ∧ ∀ k, F k → w2.heap.size ≤ k) ∧ Keeps (fun _ => False) wr w3 from ⟨hr3, k03⟩)
           clear hrn hr3 hk3 k03 hb3 f1 c2))
      go_roundw
      case rel =>
        obtain ⟨H, p1, p2⟩ := pair_new (w := wr) (n := 512) (m := 8) (r := r) (by omega) (by omega) (by omega) (by omega) (List.replicate 512 0) (Rf.fresh 8) (by simp) (fun b hb => by rw [List.eq_of_mem_replicate hb]; omega) (rel_fresh 8 (by omega) (by omega)) (by rw [u8s_zero]; exact H2.out.1) H3.out.1 (Int.le_refl 0)
        exact ⟨k + 1, by omega, by go_num, _, _, _, HS.out.next hlt H3.out.2 p1 p2 rfl⟩
      case measure => simp [intOf]; omega
    · obtain rfl : k = 3 := by omega
      have HS := Hid.mk' hs
      clear hs hlt hk
      go_wp2
      go_ret2
      refine ⟨rfl, ⟨dd, rr, HH, ?_, Nat.le_refl _, HS.out.pair, HS.out.apart, fun i x hi hx => by have := HS.out.hi i x hi hx; omega⟩, HS.out.keeps⟩
      have := HS.out.both
      simpa [bothTo, ptTo, bothCells] using this

end Go.Proofs.Ytfiekdgpdboolab
