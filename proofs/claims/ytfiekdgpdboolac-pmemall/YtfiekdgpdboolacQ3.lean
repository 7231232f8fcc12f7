import Derived.Test.YtfiekdgpdboolacQ2
namespace Go.Proofs.Ytfiekdgpdboolac
open Go.RowKit Go.Maps

/-- The last of the times that lies below f; 0: none does. -/
def lastB (f : Int) (l : List Int) : Int := l.foldl (fun t x => if x < f then x else t) 0
/-- The value of a word's stores ahead of a time, and the values of the others. -/
def oldOf (k t o : Int) (l : List Note3) : Int := l.foldl (fun o p => if p.1 = k ∧ p.2.2 < t then p.2.1 else o) o
def newsOf (k t : Int) (l : List Note3) : List Int := (l.filter fun p => decide (p.1 = k) && !decide (p.2.2 < t)).map fun p => p.2.1
def nowOf (k o : Int) (l : List Note3) : Int := l.foldl (fun o p => if p.1 = k then p.2.1 else o) o

theorem take_snoc' {α : Type} {l : List α} {i : Nat} (d : α) (h : i < l.length) : l.take (i + 1) = l.take i ++ [l.getD i d] := by
  rw [List.take_add_one]
  simp [List.getD_eq_getElem?_getD, h]

theorem lastB_snoc (f : Int) (l : List Int) (x : Int) : lastB f (l ++ [x]) = if x < f then x else lastB f l := by simp [lastB]
theorem oldOf_snoc (k t o : Int) (l : List Note3) (p : Note3) : oldOf k t o (l ++ [p]) = if p.1 = k ∧ p.2.2 < t then p.2.1 else oldOf k t o l := by simp [oldOf]
theorem nowOf_snoc (k o : Int) (l : List Note3) (p : Note3) : nowOf k o (l ++ [p]) = if p.1 = k then p.2.1 else nowOf k o l := by simp [nowOf]
theorem newsOf_snoc (k t : Int) (l : List Note3) (p : Note3) : newsOf k t (l ++ [p]) = if p.1 = k ∧ ¬ p.2.2 < t then newsOf k t l ++ [p.2.1] else newsOf k t l := by
  unfold newsOf
  rw [List.filter_append, List.map_append]
  by_cases h : p.1 = k ∧ ¬ p.2.2 < t
  · rw [if_pos h]
    have : (decide (p.1 = k) && !decide (p.2.2 < t)) = true := by simp [h.1]; omega
    simp [List.filter, this]
  · rw [if_neg h]
    have : (decide (p.1 = k) && !decide (p.2.2 < t)) = false := by
      by_cases h1 : p.1 = k
      · have h2 : p.2.2 < t := Decidable.byContradiction fun h2 => h ⟨h1, h2⟩
        simp [h2]
      · simp [h1]
    simp [List.filter, this]
theorem newsOf_len (k t : Int) (l : List Note3) : (newsOf k t l).length ≤ l.length := by
  unfold newsOf
  rw [List.length_map]
  exact List.length_filter_le _ _

theorem putCells_get (l : List Note3) (i : Nat) (hi : i < l.length) :
    (putCells l)[i * 3]? = some (.int .i64 (l.getD i (0, 0, 0)).1) ∧ (putCells l)[i * 3 + 1]? = some (.int .u64 (l.getD i (0, 0, 0)).2.1) ∧ (putCells l)[i * 3 + 2]? = some (.int .i64 (l.getD i (0, 0, 0)).2.2) := by
  induction l generalizing i with
  | nil => simp at hi
  | cons a l ih =>
    have e : putCells (a :: l) = [.int .i64 a.1, .int .u64 a.2.1, .int .i64 a.2.2] ++ putCells l := by simp [putCells]
    rw [e]
    cases i with
    | zero => simp
    | succ i =>
      have hi' : i < l.length := by simpa using hi
      obtain ⟨h1, h2, h3⟩ := ih i hi'
      have e1 : (a :: l).getD (i + 1) (0, 0, 0) = l.getD i (0, 0, 0) := by simp [List.getD_eq_getElem?_getD]
      rw [e1]
      refine ⟨?_, ?_, ?_⟩
      · rw [List.getElem?_append_right (by simp; omega), ← h1]; congr 1; simp; omega
      · rw [List.getElem?_append_right (by simp; omega), ← h2]; congr 1; simp; omega
      · rw [List.getElem?_append_right (by simp; omega), ← h3]; congr 1; simp; omega

/-- A row's value is a slice; where it isn't empty it lies at a block's head. -/
theorem row_form {w : World} {b e s n : Nat} {v : Value} {xs : List Value} (h : w.ownsRow b e s v n xs) : ∃ p c, v = .slice p n c ∧ (0 < n → ∃ g, p = some ⟨g, 0, none⟩) := by
  rcases h.2 with ⟨e1, e2⟩ | ⟨g, cp, cur, e1, _⟩
  · exact ⟨none, 0, by rw [e1, e2], fun h => by omega⟩
  · exact ⟨_, _, e1, fun _ => ⟨g, rfl⟩⟩

set_option maxHeartbeats 1000000 in
theorem rsettled_any (w : World) (F : Nat → Prop) (r : Nat) (R : Rf) (M : RLay) (i : Nat) (h : RefAt w F r R M) (hi : i < R.n) (hn : R.now ≤ 1000000000) :
    Calls Try.prog 73 #[.pointer (some ⟨r, 0, none⟩), .int .i64 i] w fun e w' => e = .returned (.int .i64 (lastB R.fenced (R.fls i))) ∧ ∃ q, w' = w.drewN q := by
  obtain ⟨c0, c1, c2, c3, c4⟩ := h.cells
  have cf := h.fcl i hi
  have hrow := h.frow i hi
  have hlen := h.flen i hi
  have hnn := h.nn
  obtain ⟨p, c, hv, hp⟩ := row_form hrow
  rw [hv] at cf hrow
  have hi0 : (0 : Int) ≤ (i : Int) := by omega
  have hi1 : (i : Int) < (R.n : Int) := by omega
  clear h hv
  generalize R.fls i = fl at *
  have HRW := Hid.mk' hrow
  have HP := Hid.mk' hp
  clear c2 c3 c4 hrow hp
  go_enter Try.func73, Try.ntmps73
  go_wp2
  go_loopw [5, 7] (fun t j wr => ∃ k : Nat, k ≤ fl.length ∧ j = .int .i64 k ∧ t = .int .i64 (lastB R.fenced (fl.take k)) ∧ ∃ q, wr = w.drewN q) (fun _ j _ => fl.length - (intOf j).toNat)
  case atStart => exact ⟨0, by omega, rfl, rfl, 0, rfl⟩
  case round =>
    obtain ⟨k, hk, rfl, rfl, q, rfl⟩ := hrel
    by_cases hlt : k < fl.length
    · obtain ⟨g, rfl⟩ := HP.out (by omega)
      have cc := (HRW.out.cellAt k (by omega)).trans (show (i64s fl)[k]? = some (.int .i64 (fl.getD k 0)) by simp [i64s, List.getD_eq_getElem?_getD, hlt])
      have HT := Hid.mk' (take_snoc' (0 : Int) hlt)
      have h3 : (0 : Int) ≤ (k : Int) := by omega
      have h4 : (k : Int) < (fl.length : Int) := by omega
      generalize fl.getD k 0 = x at *
      by_cases hx : x < R.fenced
      · have hd : decide (x < R.fenced) = true := by simp [hx]
        go_upto_region 6 with fail
        go_quiet (fail)
        go_wp2
        go_roundw
        case rel => exact ⟨k + 1, by omega, by go_num, by rw [HT.out, lastB_snoc, if_pos hx], _, rfl⟩
        case measure => simp [intOf]; omega
      · have hd : decide (x < R.fenced) = false := by simp; omega
        go_upto_region 6 with fail
        go_quiet (fail)
        go_wp2
        go_roundw
        case rel => exact ⟨k + 1, by omega, by go_num, by rw [HT.out, lastB_snoc, if_neg (by omega)], _, rfl⟩
        case measure => simp [intOf]; omega
    · obtain rfl : k = fl.length := by omega
      rw [List.take_length]
      go_wp2
      go_ret
      exact ⟨rfl, q, rfl⟩

set_option maxHeartbeats 1000000 in
theorem rnow_any (w : World) (F : Nat → Prop) (r : Nat) (R : Rf) (M : RLay) (a i k : Nat) (h : RefAt w F r R M) (hi : i = a / 64) (hin : i < R.n) (hk : k = a / 8 % 8) (hn : R.now ≤ 1000000000) :
    Calls Try.prog 60 #[.pointer (some ⟨r, 0, none⟩), .int .i64 a] w fun e w' => e = .returned (.int .u64 (nowOf k (R.first i k) (R.puts i))) ∧ w' = w := by
  obtain ⟨c0, c1, c2, c3, c4⟩ := h.cells
  have hnn := h.nn
  have cf := h.fst i hin k (by omega)
  have cp := h.pcl i hin
  have hrow := h.prow i hin
  have hlen := h.plen i hin
  obtain ⟨p, c, hv, hp⟩ := row_form hrow
  rw [hv] at cp hrow
  obtain ⟨t, ht⟩ : ∃ t : Nat, t = a / 8 := ⟨_, rfl⟩
  have hq1 : (a : Int).tdiv 64 = (i : Int) := by rw [Int.tdiv_eq_ediv_of_nonneg (by omega)]; omega
  have hq2 : (a : Int).tdiv 8 = (t : Int) := by rw [Int.tdiv_eq_ediv_of_nonneg (by omega)]; omega
  have hq3 : (t : Int).tmod 8 = (k : Int) := by rw [Int.tmod_eq_emod_of_nonneg (by omega)]; omega
  have hw1 : IntKind.i64.wrap (i : Int) = (i : Int) := wrap_id (by omega) (by omega)
  have hw2 : IntKind.i64.wrap (t : Int) = (t : Int) := wrap_id (by omega) (by omega)
  have hi0 : (0 : Int) ≤ (i : Int) := by omega
  have hi1 : (i : Int) < (R.n : Int) := by omega
  have hk0 : (0 : Int) ≤ (k : Int) := by omega
  have hk8 : (k : Int) < 8 := by omega
  clear h hv
  generalize R.puts i = pl at *
  generalize R.first i k = f0 at *
  have HRW := Hid.mk' hrow
  have HP := Hid.mk' hp
  clear c1 c2 c3 c4 hrow hp hi hk ht
  go_enter Try.func60, Try.ntmps60
  go_wp2
  go_loop [6, 8] (fun t j => ∃ m : Nat, m ≤ pl.length ∧ j = .int .i64 m ∧ t = .int .u64 (nowOf k f0 (pl.take m))) (fun _ j => pl.length - (intOf j).toNat)
  case atStart => exact ⟨0, by omega, rfl, rfl⟩
  case round =>
    obtain ⟨m, hm, rfl, rfl⟩ := hrel
    by_cases hlt : m < pl.length
    · obtain ⟨g, rfl⟩ := HP.out (by omega)
      obtain ⟨g1, g2, g3⟩ := putCells_get pl m hlt
      have d1 := (HRW.out.cellAt (m * 3) (by omega)).trans g1
      have d2 := (HRW.out.cellAt (m * 3 + 1) (by omega)).trans g2
      have HT := Hid.mk' (take_snoc' ((0, 0, 0) : Note3) hlt)
      have h3 : (0 : Int) ≤ (m : Int) := by omega
      have h4 : (m : Int) < (pl.length : Int) := by omega
      generalize pl.getD m (0, 0, 0) = x at *
      clear g1 g2 g3
      by_cases hx : x.1 = (k : Int)
      · have hd : (x.1 == (k : Int)) = true := by simp [hx]
        have HX := Hid.mk' hx
        clear hx
        go_wp2
        go_round
        case rel => exact ⟨m + 1, by omega, by go_num, by rw [HT.out, nowOf_snoc, if_pos HX.out]⟩
        case measure => simp [intOf]; omega
      · have hd : (x.1 == (k : Int)) = false := by simp [hx]
        have HX := Hid.mk' hx
        clear hx
        go_wp2
        go_round
        case rel => exact ⟨m + 1, by omega, by go_num, by rw [HT.out, nowOf_snoc, if_neg HX.out]⟩
        case measure => simp [intOf]; omega
    · obtain rfl : m = pl.length := by omega
      rw [List.take_length]
      go_wp2
      go_ret
      exact ⟨rfl, rfl⟩

end Go.Proofs.Ytfiekdgpdboolac
