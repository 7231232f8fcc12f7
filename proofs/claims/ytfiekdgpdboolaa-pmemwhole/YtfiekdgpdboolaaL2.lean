import Derived.Test.YtfiekdgpdboolaaL1
namespace Go.Proofs.Ytfiekdgpdboolaa
open Go.RowKit Go.Maps

set_option maxHeartbeats 400000 in
theorem stored_yes (w : World) (p : Option Addr) (cap n : Nat) (l : List Note3) (a v : Int) (hN : NotesAt w p l) (hl : l.length ≤ maxLen) (_hn : n ≤ 1000000) (hn' : 8 ≤ n) (j : Nat) (hj : j < l.length) (hj4 : j < 400)
    (h1 : (l.getD j (0, 0, 0)).1 = 1) (h2 : wordOf (l.getD j (0, 0, 0)).2.1 n = a) (h3 : (l.getD j (0, 0, 0)).2.2 = v) :
    Calls Try.prog 16 #[.slice p l.length cap, .int .i64 a, .int .u64 v, .int .i64 n] w fun e w' => e = .returned (.bool true) ∧ w' = w := by
  unfold maxLen at hl
  obtain ⟨b, o, rfl, hb, hc⟩ := hN (by omega)
  have HC := Hid.mk' hc
  have HJ := Hid.mk' (show (l.getD j (0, 0, 0)).1 = 1 ∧ wordOf (l.getD j (0, 0, 0)).2.1 n = a ∧ (l.getD j (0, 0, 0)).2.2 = v from ⟨h1, h2, h3⟩)
  clear hc h1 h2 h3 hN hb
  go_enter Try.func16, Try.ntmps16
  go_wp2
  go_loop [9] (fun i => ∃ k : Nat, k ≤ j ∧ i = .int .i64 k) (fun i => 400 - (intOf i).toNat)
  case atStart => exact ⟨0, by omega, rfl⟩
  case round =>
    obtain ⟨k, hk, rfl⟩ := hrel
    obtain ⟨e1, e2, e3, e4⟩ := HC.out k (by omega)
    have i1 : (k : Int) < (l.length : Int) := by omega
    have i2 : (k : Int) < 400 := by omega
    have HKJ : Hid (k = j → (l.getD k (0, 0, 0)).1 = 1 ∧ wordOf (l.getD k (0, 0, 0)).2.1 n = a ∧ (l.getD k (0, 0, 0)).2.2 = v) := fun e => by subst e; exact HJ.out
    have hwd := word_any (l.getD k (0, 0, 0)).2.1 n w (by omega) hn'
    generalize l.getD k (0, 0, 0) = nt at *
    clear e4
    by_cases c1 : nt.1 = 1
    · have b1 : (nt.1 == 1) = true := by simp [c1]
      by_cases c2 : nt.2.2 = v
      · have b2 : (nt.2.2 == v) = true := by simp [c2]
        by_cases c3 : wordOf nt.2.1 n = a
        · have b3 : (wordOf nt.2.1 n == a) = true := by simp [c3]
          clear c1 c2 c3 HKJ
          go_wp2_with (first | (go_at_call 14; refine hwd.mono ?_; rintro e w' ⟨rfl, hw⟩; subst w'))
          go_ret
          exact ⟨rfl, rfl⟩
        · have b3 : (wordOf nt.2.1 n == a) = false := by simp [c3]
          have HC3 := Hid.mk' c3
          clear c1 c2 c3
          go_wp2_with (first | (go_at_call 14; refine hwd.mono ?_; rintro e w' ⟨rfl, hw⟩; subst w'))
          go_round
          case rel =>
            refine ⟨k + 1, ?_, by go_num⟩
            have : k ≠ j := fun e => HC3.out (HKJ.out e).2.1
            omega
          case measure => simp [intOf]; omega
      · have b2 : (nt.2.2 == v) = false := by simp [c2]
        have HC3 := Hid.mk' c2
        clear c1 c2
        go_wp2_with (first | (go_at_call 14; refine hwd.mono ?_; rintro e w' ⟨rfl, hw⟩; subst w'))
        go_round
        case rel =>
          refine ⟨k + 1, ?_, by go_num⟩
          have : k ≠ j := fun e => HC3.out (HKJ.out e).2.2
          omega
        case measure => simp [intOf]; omega
    · have b1 : (nt.1 == 1) = false := by simp [c1]
      have HC3 := Hid.mk' c1
      clear c1
      go_wp2_with (first | (go_at_call 14; refine hwd.mono ?_; rintro e w' ⟨rfl, hw⟩; subst w'))
      go_round
      case rel =>
        refine ⟨k + 1, ?_, by go_num⟩
        have : k ≠ j := fun e => HC3.out (HKJ.out e).1
        omega
      case measure => simp [intOf]; omega

/-- The words' last values, as the statement lays them. -/
def lastRow (n m : Nat) (l : List Note3) : List Int := (List.range m).map fun i : Nat => lastOf n l (8 * (i : Int))

theorem lastOf_snoc (n : Nat) (l : List Note3) (t : Note3) (a : Int) : lastOf n (l ++ [t]) a = if t.1 = 1 ∧ wordOf t.2.1 n = a then t.2.2 else lastOf n l a := by
  unfold lastOf
  rw [hist_snoc]
  split
  · rw [← List.cons_append, last_append]; rfl
  · rw [List.append_nil]

theorem lastRow_store (n m : Nat) (l : List Note3) (t : Note3) (q : Nat) (h1 : t.1 = 1) (hq : wordOf t.2.1 n = 8 * (q : Int)) : (lastRow n m l).set q t.2.2 = lastRow n m (l ++ [t]) := by
  apply List.ext_getElem
  · simp [lastRow]
  · intro i h2 h3
    simp only [lastRow, List.length_map, List.length_range] at h3
    rw [List.getElem_set]
    simp only [lastRow, List.getElem_map, List.getElem_range, lastOf_snoc]
    by_cases hqi : q = i
    · subst hqi; rw [if_pos rfl, if_pos ⟨h1, hq⟩]
    · rw [if_neg hqi, if_neg (by rw [hq]; omega)]

theorem lastRow_other (n m : Nat) (l : List Note3) (t : Note3) (h1 : t.1 ≠ 1) : lastRow n m (l ++ [t]) = lastRow n m l := by
  unfold lastRow
  congr 1
  funext i
  rw [lastOf_snoc, if_neg (by simp [h1])]

theorem lastRow_start (n m : Nat) : lastRow n m [] = List.replicate m 0 := by
  apply List.ext_getElem
  · simp [lastRow]
  · intro i h1 h2
    simp only [lastRow, List.getElem_map, List.getElem_replicate]
    rfl

theorem take_snoc3 (l : List Note3) (k : Nat) (h : k < l.length) : l.take (k + 1) = l.take k ++ [l.getD k (0, 0, 0)] := by
  rw [List.take_succ_eq_append_getElem h, List.getD_eq_getElem?_getD, List.getElem?_eq_getElem h]
  rfl

end Go.Proofs.Ytfiekdgpdboolaa
