import Derived.Test.YtnafocbgapianabB2
namespace Go.Proofs.Ytnafocbgapianab
open Go.RowKit

theorem rem_pos {c m : Int} (h0 : 0 < m) (h : 0 ≤ c.tmod m) : c.tmod m = c % m := by
  have h1 := Int.emod_eq_tmod (a := c) (b := m)
  have h2 := Int.emod_lt_of_pos c h0
  have h3 := Int.emod_nonneg c (by omega : m ≠ 0)
  split at h1 <;> omega
theorem rem_neg' {c m : Int} (h0 : 0 < m) (h : c.tmod m < 0) : c.tmod m + m = c % m := by
  have h1 := Int.emod_eq_tmod (a := c) (b := m)
  have h2 := Int.emod_lt_of_pos c h0
  have h3 := Int.emod_nonneg c (by omega : m ≠ 0)
  split at h1 <;> omega
theorem rem_neg {c m : Int} (h0 : 0 < m) (hm : m ≤ 1000000000) (h : c.tmod m < 0) : wrap64 (c.tmod m + m) = c % m := by
  have h1 := rem_neg' h0 h
  have h2 := Int.emod_lt_of_pos c h0
  have h3 := Int.emod_nonneg c (by omega : m ≠ 0)
  rw [wrap64_id (by omega) (by omega)]; exact h1

/-- A place by any number. -/
def plc (at_ : Int) (n : Nat) : Nat := (at_ % (n : Int)).toNat
theorem plc_lt (at_ : Int) {n : Nat} (h : 1 ≤ n) : plc at_ n < n := by
  have h2 := Int.emod_lt_of_pos at_ (show (0 : Int) < n by omega)
  have h3 := Int.emod_nonneg at_ (show (n : Int) ≠ 0 by omega)
  unfold plc; omega
theorem plc_cast (at_ : Int) {n : Nat} (h : 1 ≤ n) : (plc at_ n : Int) = at_ % (n : Int) := by
  have h3 := Int.emod_nonneg at_ (show (n : Int) ≠ 0 by omega)
  unfold plc; omega

set_option maxHeartbeats 400000 in
theorem place_int (c m : Int) (w : World) (h0 : 0 < m) (hm : m ≤ 1000000000) :
    Calls Try.prog 16 #[.int .i64 c, .int .i64 m] w fun e w' => e = .returned (.int .i64 (c % m)) ∧ w' = w := by
  have h1 : ¬ m < 1 := by omega
  go_enter Try.func16, Try.ntmps16
  go_wp2
  · go_ret
    exact ⟨ret_int (rem_neg h0 hm ‹_›), rfl⟩
  · go_ret
    exact ⟨ret_int (rem_pos h0 ‹_›), rfl⟩

theorem place_any (c : Int) (n : Nat) (w : World) (h : 1 ≤ n) (hm : n ≤ 1000000) :
    Calls Try.prog 16 #[.int .i64 c, .int .i64 n] w fun e w' => e = .returned (.int .i64 (plc c n)) ∧ w' = w := by
  rw [plc_cast c h]
  exact place_int c n w (by omega) (by omega)

/-- The statements' shapes. -/
def mkSh (p i c : Int) : Sh := ⟨max 24 (13 + plc i 8 + plc p 100), 8 * (1 + plc i 8), 1 + plc c 8, 5 + plc i 8⟩
theorem mkSh_good (p i c : Int) : (mkSh p i c).Good := by
  have h1 := plc_lt i (show 1 ≤ 8 by omega)
  have h2 := plc_lt c (show 1 ≤ 8 by omega)
  have h3 := plc_lt p (show 1 ≤ 100 by omega)
  unfold mkSh Sh.Good
  simp only
  omega
theorem mkSh_pages (p i c : Int) : (mkSh p i c).pages ≤ 119 := by
  have h1 := plc_lt i (show 1 ≤ 8 by omega)
  have h3 := plc_lt p (show 1 ≤ 100 by omega)
  unfold mkSh
  simp only
  omega

theorem ret4 {a b c d a' b' c' d' : Int} (h1 : a = a') (h2 : b = b') (h3 : c = c') (h4 : d = d') : Ending.returned (.agg #[.int .i64 a, .int .i64 b, .int .i64 c, .int .i64 d]) = .returned (.agg #[.int .i64 a', .int .i64 b', .int .i64 c', .int .i64 d']) := by rw [h1, h2, h3, h4]

set_option maxHeartbeats 1000000 in
theorem shape_any (p i c : Int) (w : World) :
    Calls Try.prog 9 #[.int .i64 p, .int .i64 i, .int .i64 c] w fun e w' => e = .returned (mkSh p i c).agg ∧ Keeps (fun k => w.heap.size ≤ k) w w' := by
  have hp := fun x w => place_any x 8 w (by omega) (by omega)
  have hq := fun x w => place_any x 100 w (by omega) (by omega)
  have h1 := plc_lt i (show 1 ≤ 8 by omega)
  have h2 := plc_lt c (show 1 ≤ 8 by omega)
  have h3 := plc_lt p (show 1 ≤ 100 by omega)
  have hR := (MapKept.heap_alloc w (.cells #[.int .i64 0, .int .i64 0, .int .i64 0, .int .i64 0] 24)).1
  have hpi := hp i
  have hpc := hp c
  have hqp := hq p
  have HV : Hid ((mkSh p i c).agg = .agg #[.int .i64 (max 24 (13 + plc i 8 + plc p 100) : Nat), .int .i64 (8 * (1 + plc i 8) : Nat), .int .i64 (1 + plc c 8 : Nat), .int .i64 (5 + plc i 8 : Nat)]) := rfl
  generalize plc i 8 = a at *
  generalize plc c 8 = b at *
  generalize plc p 100 = q at *
  have hdiv : ((8 : Int) * (1 + (a : Int))).tdiv 8 = 1 + (a : Int) := by rw [Int.tdiv_eq_ediv_of_nonneg (by omega)]; omega
  clear hp hq
  go_enter Try.func9, Try.ntmps9
  go_wp2_with (first
    | (go_at_call_of 16 i; refine (hpi _).mono ?_; rintro e w1 ⟨rfl, hw⟩; subst w1)
    | (go_at_call_of 16 p; refine (hqp _).mono ?_; rintro e w1 ⟨rfl, hw⟩; subst w1)
    | (go_at_call_of 16 c; refine (hpc _).mono ?_; rintro e w1 ⟨rfl, hw⟩; subst w1))
  all_goals
    refine bodyPost_ret (v := _) (by simp [results, Try.results9, go_sem]; rfl) rfl ?_
    refine ⟨?_, Keeps.of (World.grownBy_alloc w _ none) (by simp)⟩
    rw [HV.out]
    exact ret4 (by omega) (by omega) (by omega) (by omega)

/-- The whole data area. -/
def wholeL (s : Sh) : List (Int × Int) := [((s.data : Int), ((s.pages - s.data : Nat) : Int))]

set_option maxHeartbeats 1000000 in
theorem whole_any (s : Sh) (hs : s.Good) (w : World) :
    Calls Try.prog 11 #[s.agg] w fun e w' => ∃ b, e = .returned (.slice (some ⟨b, 0, none⟩) 1 1) ∧ SpIn w' (some ⟨b, 0, none⟩) (wholeL s) ∧ w.heap.size ≤ b ∧ Keeps (fun k => w.heap.size ≤ k) w w' := by
  have hg := hs
  obtain ⟨h1, h2, h3, h4, h5, h6, h7, h8, h9⟩ := hg
  have hsub : IntKind.i64.wrap ((s.pages : Int) - (s.data : Int)) = ((s.pages - s.data : Nat) : Int) := by rw [i64_id (by omega) (by omega)]; omega
  have hsub2 : (s.pages : Int) - (s.data : Int) = ((s.pages - s.data : Nat) : Int) := by omega
  unfold Sh.agg wholeL
  obtain ⟨n1, n2, n3, n4⟩ := two_new w (.cells #[.int .i64 s.pages, .int .i64 s.inodes, .int .i64 s.cores, .int .i64 s.data] 24) (.cells #[.int .i64 s.data, .int .i64 ((s.pages - s.data : Nat) : Int)] 46)
  have HN := Hid.mk' n2
  have HN3 := Hid.mk' n3
  have HN4 := Hid.mk' n4
  generalize s.pages - s.data = D at *
  clear h3 h4 h5 h6 h7 h8 n1 n2 n3 n4
  go_enter Try.func11, Try.ntmps11
  go_wp2
  go_ret
  refine ⟨w.heap.size + 1, rfl, ?_, by omega, HN3.out⟩
  intro _
  refine ⟨w.heap.size + 1, 0, rfl, heap_lt HN.out, ?_⟩
  intro i hi
  obtain rfl : i = 0 := by simp at hi; omega
  obtain ⟨q0, q1, _⟩ := cells2 HN.out
  exact ⟨q0, q1⟩

theorem whole_gsp {s : Sh} (hs : s.Good) : gsp s.pages s.data (wholeL s) = true := by
  obtain ⟨h1, h2, h3, h4, h5, h6, h7, h8, h9⟩ := hs
  unfold wholeL
  simp only [gsp]
  rw [if_neg (by omega)]

/-- All pages of the data area. -/
def allS (s : Sh) : Nat → Bool := fun j => decide (s.data ≤ j) && decide (j < s.pages)
theorem whole_in {s : Sh} (hs : s.Good) : inSp (wholeL s) = allS s := by
  obtain ⟨h1, h2, h3, h4, h5, h6, h7, h8, h9⟩ := hs
  funext j
  unfold inSp wholeL allS
  have e1 : ((s.data : Int) ≤ (j : Int)) ↔ s.data ≤ j := by omega
  have e2 : ((j : Int) < (s.data : Int) + ((s.pages - s.data : Nat) : Int)) ↔ j < s.pages := by omega
  simp [e1, e2]

/-- NewPool of the whole data area. -/
theorem newWhole (s : Sh) (hs : s.Good) (w : World) (b : Nat) (h : SpIn w (some ⟨b, 0, none⟩) (wholeL s)) :
    Calls Try.prog 10 #[s.agg, .slice (some ⟨b, 0, none⟩) 1 1] w fun e w' => ∃ d, e = .returned (.tuple #[.pointer (some ⟨d, 0, none⟩), .int .i64 0]) ∧ w.heap.size ≤ d ∧ PoolAt w' d s (allS s) ∧ Keeps (fun k => w.heap.size ≤ k) w w' := by
  have := newPool_yes s hs w (some ⟨b, 0, none⟩) 1 (wholeL s) h (by simp [wholeL, maxLen]) (by have := hs.2.1; have := hs.2.2.2.2.2.2.2.2; simp [wholeL]; omega) (whole_gsp hs)
  rw [whole_in hs] at this
  exact this

end Go.Proofs.Ytnafocbgapianab
