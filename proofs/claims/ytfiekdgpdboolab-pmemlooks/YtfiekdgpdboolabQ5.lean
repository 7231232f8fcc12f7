import Derived.Test.YtfiekdgpdboolabQ4
namespace Go.Proofs.Ytfiekdgpdboolab
open Go.RowKit Go.Maps

set_option maxHeartbeats 400000 in
theorem rrest_any (c m : Int) (w : World) (h0 : 0 < m) (hm : m ≤ 1000000001) :
    Calls Try.prog 96 #[.int .i64 c, .int .i64 m] w fun e w' => e = .returned (.int .i64 (c % m)) ∧ w' = w := by
  go_enter Try.func96, Try.ntmps96
  go_wp2
  · go_ret
    refine ⟨ret_int ?_, rfl⟩
    have h1 := rem_neg' h0 ‹_›
    have h2 := Int.emod_lt_of_pos c h0
    have h3 := Int.emod_nonneg c (by omega : m ≠ 0)
    rw [wrap64_id (by omega) (by omega)]; exact h1
  · go_ret
    exact ⟨ret_int (rem_pos h0 ‹_›), rfl⟩

/-- The bytes with the first k of a value's laid at a. -/
def layK (bs : List Int) (a : Nat) (v : Int) (k : Nat) : List Int := (List.range bs.length).map fun j => if a ≤ j ∧ j < a + k then byteOf v (j - a) else bs.getD j 0

theorem layK_zero (bs : List Int) (a : Nat) (v : Int) : layK bs a v 0 = bs := by
  apply List.ext_getElem
  · simp [layK]
  · intro j h1 h2
    simp only [layK, List.getElem_map, List.getElem_range]
    rw [if_neg (by omega), List.getD_eq_getElem?_getD, List.getElem?_eq_getElem h2]
    rfl

theorem layK_len (bs : List Int) (a : Nat) (v : Int) (k : Nat) : (layK bs a v k).length = bs.length := by simp [layK]

theorem layK_succ (bs : List Int) (a : Nat) (v : Int) (k : Nat) : (u8s (layK bs a v k)).toArray.setIfInBounds (a + k) (.int .u8 (byteOf v k)) = (u8s (layK bs a v (k + 1))).toArray := by
  apply Array.ext
  · simp [u8s, layK]
  · intro j h1 h2
    have hj : j < bs.length := by simpa [u8s, layK] using h2
    rw [Array.getElem_setIfInBounds]
    · by_cases h : a + k = j
      · subst h
        simp only [if_true, u8s, layK, List.getElem_toArray, List.getElem_map, List.getElem_range]
        rw [if_pos (by omega)]
        congr 2
        omega
      · rw [if_neg h]
        simp only [u8s, layK, List.getElem_toArray, List.getElem_map, List.getElem_range]
        by_cases h2 : a ≤ j ∧ j < a + k
        · rw [if_pos h2, if_pos (by omega)]
        · rw [if_neg h2, if_neg (by omega)]
    · simpa [u8s, layK] using hj

set_option maxHeartbeats 400000 in
theorem rput_any (g n a : Nat) (v : Int) (bs : List Int) (w : World) (hg : w.heap[g]? = some (.cells (u8s bs).toArray 5 (0, 0))) (hn : bs.length = n) (hn' : n ≤ 1000000) (hat : a + 8 ≤ n) :
    Calls Try.prog 97 #[.slice (some ⟨g, 0, none⟩) n n, .int .i64 a, .int .u64 v] w fun e w' => e = .returned (.tuple #[]) ∧
      w'.heap[g]? = some (.cells (u8s (layK bs a v 8)).toArray 5 (0, 0)) ∧ w.grownBy w' (some g) := by
  have HG := Hid.mk' hg
  have HN := Hid.mk' hn
  clear hg hn
  go_enter Try.func97, Try.ntmps97
  go_wp2
  go_loopw [6] (fun i wr => ∃ k : Nat, k ≤ 8 ∧ i = .int .i64 k ∧ Hid (wr.heap[g]? = some (.cells (u8s (layK bs a v k)).toArray 5 (0, 0)) ∧ w.grownBy wr (some g))) (fun i _ => 8 - (intOf i).toNat)
  case atStart => exact ⟨0, by omega, rfl, by rw [layK_zero]; exact HG.out, ⟨rfl, rfl, rfl, Nat.le_refl _, fun _ _ _ => rfl⟩⟩
  case round =>
    obtain ⟨k, hk, rfl, hrel⟩ := hrel
    by_cases hlt : k < 8
    · obtain ⟨x, hx⟩ : ∃ x, wr.cell? ⟨g, a + k, none⟩ = some (.int .u8 x) := ⟨(layK bs a v k).getD (a + k) 0, cells_u8 hrel.out.1 (a + k) (by rw [layK_len]; have := HN.out; omega)⟩
      have hfz : wr.frozen? ⟨g, a + k, none⟩ = false := by simp [World.frozen?, hrel.out.1]
      have h1 : (0 : Int) ≤ (a : Int) + (k : Int) := by omega
      have h2 : (a : Int) + (k : Int) < (n : Int) := by omega
      have hbs := byte_shift v k
      have hak : ((a : Int) + (k : Int)).toNat = a + k := by omega
      go_wp2
      go_roundw
      case rel =>
        refine ⟨k + 1, by omega, by go_num, ?_, grownBy_trans hrel.out.2 (grownBy_setCell wr ⟨g, a + k, none⟩ _)⟩
        have := setCell_block (a := ⟨g, a + k, none⟩) (v := .int .u8 (byteOf v k)) hrel.out.1 rfl
        rw [layK_succ] at this
        exact this
      case measure => simp [intOf]; omega
    · obtain rfl : k = 8 := by omega
      go_wp2
      go_end0
      exact ⟨rfl, hrel.out⟩

/-- The bytes of words, one behind the other. -/
def wordsB (f : Nat → Int) (n : Nat) : List Int := (List.range n).map fun j => byteOf (f (j / 8)) (j % 8)
/-- .. of the first t of them; zeros behind. -/
def wordsTo (f : Nat → Int) (n t : Nat) : List Int := (List.range n).map fun j => if j < 8 * t then byteOf (f (j / 8)) (j % 8) else 0

theorem wordsTo_len (f : Nat → Int) (n t : Nat) : (wordsTo f n t).length = n := by simp [wordsTo]
theorem wordsTo_zero (f : Nat → Int) (n : Nat) : wordsTo f n 0 = List.replicate n 0 := by
  apply List.ext_getElem
  · simp [wordsTo]
  · intro j h1 h2; simp [wordsTo]
theorem wordsTo_all (f : Nat → Int) (n t : Nat) (h : n ≤ 8 * t) : wordsTo f n t = wordsB f n := by
  unfold wordsTo wordsB
  apply List.map_congr_left
  intro j hj
  rw [if_pos (by have := List.mem_range.1 hj; omega)]
theorem wordsTo_step (f : Nat → Int) (n t : Nat) (v : Int) (hv : v = f t) : layK (wordsTo f n t) (8 * t) v 8 = wordsTo f n (t + 1) := by
  subst hv
  unfold layK
  rw [wordsTo_len]
  unfold wordsTo
  apply List.map_congr_left
  intro j hj
  have hj' := List.mem_range.1 hj
  by_cases h : 8 * t ≤ j ∧ j < 8 * t + 8
  · rw [if_pos h, if_pos (by omega), show j / 8 = t by omega, show j - 8 * t = j % 8 by omega]
  · rw [if_neg h]
    have e : ((List.range n).map fun j => if j < 8 * t then byteOf (f (j / 8)) (j % 8) else 0).getD j 0 = if j < 8 * t then byteOf (f (j / 8)) (j % 8) else 0 := by
      simp [List.getD_eq_getElem?_getD, hj']
    rw [e]
    by_cases h2 : j < 8 * t
    · rw [if_pos h2, if_pos (by omega)]
    · rw [if_neg h2, if_neg (by omega)]

/-- The value now of the word number t. -/
def Rf.nowW (R : Rf) (t : Nat) : Int := nowOf (t % 8 : Nat) (R.first (t / 8) (t % 8)) (R.puts (t / 8))

set_option maxHeartbeats 1000000 in
set_option maxRecDepth 20000 in
theorem rview_any (w : World) (F : Nat → Prop) (r : Nat) (R : Rf) (M : RLay) (h : RefAt w F r R M) (hn : R.now ≤ 1000000000) :
    Calls Try.prog 91 #[.pointer (some ⟨r, 0, none⟩)] w fun e w' => e = .returned (.slice (some ⟨w.heap.size, 0, none⟩) (64 * R.n : Nat) (64 * R.n : Nat)) ∧ w'.heap[w.heap.size]? = some (.cells (u8s (wordsB R.nowW (64 * R.n))).toArray 5 (0, 0)) ∧ Keeps (fun _ => False) w w' := by
  have hnn := h.nn
  obtain ⟨N, hN⟩ : ∃ N : Nat, N = 64 * R.n := ⟨_, rfl⟩
  have hsz : ∀ wr, RefAt wr F r R M → Calls Try.prog 76 #[.pointer (some ⟨r, 0, none⟩)] wr fun e w' => e = .returned (.int .i64 (N : Int)) ∧ w' = wr := fun wr h => by
    have := rsize_any wr F r R M h
    rw [show (64 * (R.n : Int)) = (N : Int) by omega] at this
    exact this
  have hs0 := hsz w h
  obtain ⟨i0, hi, hz0, hz1, hz2⟩ := info_parts info5
  have HI : Hid (i0.bytes = 1) := hz2
  have HR := Hid.mk' h
  have HSZ := Hid.mk' hsz
  have HNN := Hid.mk' hN
  have hNb : N ≤ 524288 := by omega
  rw [← hN]
  clear h hN hz2 hsz
  go_enter Try.func91, Try.ntmps91
  go_wp2_with (first
    | (go_at_call 76; refine hs0.mono ?_; rintro e w' ⟨rfl, hw⟩; subst w'; clear hs0)
    | (at_make; go_must (refine wpList_make_row _ rfl _ _ 33 rfl 5 i0 (.int .u8 0) Try.underlying33 hi hz0 hz1 rfl .i64 .i64 N rfl rfl (by have := HI.out; rw [this]; omega) (by omega) ?_); rw [made_list]))
  go_loopw [4] (fun i wr => ∃ t : Nat, 8 * t ≤ N ∧ i = .int .i64 ((8 * t : Nat) : Int) ∧ Hid (wr.heap[w.heap.size]? = some (.cells (u8s (wordsTo R.nowW N t)).toArray 5 (0, 0)) ∧ Keeps (fun _ => False) w wr)) (fun i _ => N - (intOf i).toNat)
  case atStart => exact ⟨0, by omega, rfl, by rw [wordsTo_zero, u8s_zero]; exact (MapKept.heap_alloc w _).1, Keeps.of (World.grownBy_alloc w _ none) (by simp)⟩
  case round =>
    obtain ⟨t, ht, rfl, hrel⟩ := hrel
    have hr1 := HR.out.kept hrel.out.2 (by simp)
    have hs1 := HSZ.out wr hr1
    have hN := HNN.out
    obtain ⟨a, ha⟩ : ∃ a : Nat, a = 8 * t := ⟨_, rfl⟩
    rw [← ha]
    by_cases hlt : 8 * t < N
    · have hlt' : (a : Int) < (N : Int) := by omega
      have hno : Calls Try.prog 99 #[.pointer (some ⟨r, 0, none⟩), .int .i64 a] wr fun e w' => e = .returned (.int .u64 (R.nowW t)) ∧ w' = wr := by
        unfold Rf.nowW
        exact rnow_any wr F r R M a (t / 8) (t % 8) hr1 (by omega) (by omega) (by omega) hn
      have hpu := rput_any w.heap.size N a (R.nowW t) (wordsTo R.nowW N t) wr hrel.out.1 (wordsTo_len _ _ _) (by omega) (by omega)
      rw [ha, wordsTo_step _ _ _ _ rfl, ← ha] at hpu
      have HA := Hid.mk' (show a = 8 * t ∧ 8 * t < N ∧ N = 64 * R.n from ⟨ha, hlt, hN⟩)
      obtain ⟨nv, hnv⟩ : ∃ nv, nv = R.nowW t := ⟨_, rfl⟩
      rw [← hnv] at hno hpu
      clear ha hlt ht hN hr1 hnv
      go_wp2_with (first
        | (go_at_call 76; refine hs1.mono ?_; rintro e w' ⟨rfl, hw⟩; subst w'; clear hs1)
        | (go_at_call 99; refine hno.mono ?_; rintro e w' ⟨rfl, hw⟩; subst w'; clear hno)
        | (go_at_call 97; refine hpu.mono ?_; rintro e w4 ⟨rfl, hb4, hg4⟩; have H4 := Hid.mk' (show _ ∧ _ from ⟨hb4, hg4⟩); clear hpu hb4 hg4))
      go_roundw
      case rel =>
        obtain ⟨q1, q2, q3⟩ := HA.out
        refine ⟨t + 1, by omega, ?_, H4.out.1, hrel.out.2.step H4.out.2 (by simp)⟩
        rw [q1]; first | (congr 1; omega) | go_num
      case measure => simp [intOf]; omega
    · have hlt' : ¬ (a : Int) < (N : Int) := by omega
      have e1 : wordsTo R.nowW N t = wordsB R.nowW N := wordsTo_all _ _ _ (by omega)
      have HF := Hid.mk' (show wr.heap[w.heap.size]? = some (.cells (u8s (wordsB R.nowW N)).toArray 5 (0, 0)) ∧ Keeps (fun _ => False) w wr from ⟨by rw [← e1]; exact hrel.out.1, hrel.out.2⟩)
      clear ha hlt ht hN hr1 hrel e1
      go_wp2_with (first
        | (go_at_call 76; refine hs1.mono ?_; rintro e w' ⟨rfl, hw⟩; subst w'; clear hs1))
      go_ret
      exact ⟨rfl, HF.out⟩

end Go.Proofs.Ytfiekdgpdboolab
