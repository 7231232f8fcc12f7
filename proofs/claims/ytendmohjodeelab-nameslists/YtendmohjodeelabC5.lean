import Derived.Test.YtendmohjodeelabC4
namespace Go.Proofs.Ytendmohjodeelab
open Go.RowKit Go.Maps Go.Great

theorem getD_mem {S : List Rw} {j : Nat} (hj : j < S.length) : S.getD j rz ∈ S := by
  rw [List.getD_eq_getElem?_getD, List.getElem?_eq_getElem hj]; exact List.getElem_mem hj
theorem fnd_some {S : List Rw} {d : Int} {s : ByteArray} (hr : Rise S) (hh : hasS S d s = true) : ∃ j : Nat, j < S.length ∧ fndI S d s = j ∧ same d s (S.getD j rz) = true ∧ getS S d s = (S.getD j rz).2.2 ∧ ∀ i, i < S.length → same d s (S.getD i rz) = decide (i = j) := by
  cases hf : S.findIdx? (same d s) with
  | none =>
    obtain ⟨r, hr, e⟩ := hasS_iff.1 hh
    have := List.findIdx?_eq_none_iff.1 hf r hr
    rw [same_iff.2 e] at this; cases this
  | some j =>
    obtain ⟨hj, h1, _⟩ := List.findIdx?_eq_some_iff_getElem.1 hf
    have hg : S.getD j rz = S[j] := by simp [List.getD_eq_getElem?_getD, hj]
    have hs : same d s (S.getD j rz) = true := by rw [hg]; exact h1
    refine ⟨j, hj, by simp [fndI, hf], hs, ?_, ?_⟩
    · have e := same_iff.1 hs
      have := getS_mem hr (getD_mem hj)
      rw [e.1, e.2] at this
      exact this
    · intro i hi
      by_cases e : i = j
      · subst e; rw [hs]; simp
      · have hne : same d s (S.getD i rz) = false := by
          rw [Bool.eq_false_iff]
          intro h2
          have e1 := same_iff.1 h2
          have e2 := same_iff.1 hs
          have h3 := hr.inj (getD_mem hi) (getD_mem hj) ⟨e1.1.trans e2.1.symm, e1.2.trans e2.2.symm⟩
          have hgi : S.getD i rz = S[i] := by simp [List.getD_eq_getElem?_getD, hi]
          rw [hgi, hg] at h3
          have hp := List.pairwise_iff_getElem.1 hr
          rcases Nat.lt_or_gt_of_ne e with hlt | hlt
          · have := hp i j hi hj hlt
            rw [h3] at this
            exact rlt_ne this ⟨rfl, rfl⟩
          · have := hp j i hj hi hlt
            rw [h3] at this
            exact rlt_ne this ⟨rfl, rfl⟩
        rw [hne]; simp [e]

set_option maxHeartbeats 1000000 in
theorem ref_get (w : World) (y : Nat) (S : List Rw) (h : RefAt w y S) (hr : Rise S) (d : Int) (s : ByteArray) (hl : S.length < 4000000000000) :
    Calls Try.prog 41 #[.pointer (some ⟨y, 0, none⟩), .int .i64 d, .string s] w fun e w' => e = .returned (.int .i64 (getS S d s)) ∧ w' = w := by
  have h61 := find_any w y S h d s hl
  rcases Bool.eq_false_or_eq_true (hasS S d s) with hh | hh
  · obtain ⟨j, hj, e1, _, e2, _⟩ := fnd_some hr hh
    obtain ⟨vr, hy, hrr⟩ := h
    obtain ⟨p, cap, rfl⟩ := hrr.shape
    obtain ⟨g, rfl, hc⟩ := hrr.at (by omega)
    have c0 := (refcell hy).1
    have c1 := (hc j hj).2.2
    rw [← e2] at c1
    rw [e1] at h61
    have hj0 : ¬ (j : Int) < 0 := by omega
    have hj1 : (j : Int) < (S.length : Int) := by omega
    clear hc hy hrr e1 e2 hh hr
    go_enter Try.func41, Try.ntmps41
    go_wp2_with (first | (go_at_call 61; refine h61.mono ?_; rintro e w0 ⟨rfl, hw0⟩; subst w0))
    go_ret
    exact ⟨rfl, rfl⟩
  · rw [fnd_none hh] at h61
    rw [getS_none hh]
    go_enter Try.func41, Try.ntmps41
    go_wp2_with (first | (go_at_call 61; refine h61.mono ?_; rintro e w0 ⟨rfl, hw0⟩; subst w0))
    go_ret
    exact ⟨rfl, rfl⟩

theorem filt_step (f : Rw → Bool) {S : List Rw} {k : Nat} (h : k < S.length) : (S.take (k + 1)).filter f = (S.take k).filter f ++ (if f (S.getD k rz) then [S.getD k rz] else []) := by
  rw [take_getD rz h, List.filter_append]
  congr 1
  simp only [List.filter_cons, List.filter_nil]
theorem filt_take_le (f : Rw → Bool) (S : List Rw) (k : Nat) : ((S.take k).filter f).length ≤ S.length := by
  have h1 := List.length_filter_le f (S.take k)
  have h2 : (S.take k).length ≤ S.length := by simp [List.length_take]; omega
  omega

set_option maxHeartbeats 1000000 in
theorem ref_links (w : World) (y : Nat) (S : List Rw) (h : RefAt w y S) (d : Int) (hl : S.length < 4000000000000) :
    Calls Try.prog 43 #[.pointer (some ⟨y, 0, none⟩), .int .i64 d] w fun e w' => e = .returned (.int .i64 ((S.filter (toIno d)).length : Int)) ∧ w' = w := by
  obtain ⟨v, hy, hr⟩ := h
  obtain ⟨p, cap, rfl⟩ := hr.shape
  have c0 := (refcell hy).1
  have HRW : Hid (RowR w (.slice p S.length cap) S) := hr
  clear hy hr
  go_enter Try.func43, Try.ntmps43
  go_wp2
  go_loop [5, 6] (fun m i => ∃ k : Nat, k ≤ S.length ∧ i = .int .i64 k ∧ ∃ j : Nat, m = .int .i64 j ∧ Hid (j = ((S.take k).filter (toIno d)).length)) (fun _ i => S.length - (intOf i).toNat)
  case atStart => exact ⟨0, Nat.zero_le _, rfl, 0, rfl, rfl⟩
  case round =>
    obtain ⟨k, hk, rfl, j, rfl, HB⟩ := hrel
    have hjb : j ≤ S.length := by rw [HB.out]; exact filt_take_le _ _ _
    by_cases h1 : k < S.length
    · obtain ⟨g, rfl, hc⟩ := HRW.out.at (by omega)
      obtain ⟨_, _, c2⟩ := hc k h1
      have hst := filt_step (toIno d) h1
      generalize S.getD k rz = q at c2 hst
      obtain ⟨qd, qs, qi⟩ := q
      simp only at c2
      have h1' : (k : Int) < (S.length : Int) := by omega
      clear hc
      rcases Bool.eq_false_or_eq_true (decide (qi = d)) with hd | hd
      · have hd2 : (qi == d) = true := by simpa using hd
        have HF : Hid (j + 1 = ((S.take (k + 1)).filter (toIno d)).length) := by
          show _ = _
          rw [hst, List.length_append, ← HB.out]; simp [toIno, hd]
        clear hst hd
        go_wp2
        exact ⟨⟨k + 1, by omega, by go_num, j + 1, by go_num, HF⟩, by simp [intOf]; omega⟩
      · have hd2 : (qi == d) = false := by simpa using hd
        have HF : Hid (j = ((S.take (k + 1)).filter (toIno d)).length) := by
          show _ = _
          rw [hst, List.length_append, ← HB.out]; simp [toIno, hd]
        clear hst hd
        go_wp2
        exact ⟨⟨k + 1, by omega, by go_num, j, rfl, HF⟩, by simp [intOf]; omega⟩
    · have h1' : ¬ (k : Int) < (S.length : Int) := by omega
      go_wp2
      go_ret
      exact ⟨ret_int (by rw [HB.out, List.take_of_length_le (by omega)]), rfl⟩

/-- What a loop that picks rows holds. -/
def PkR (w wr : World) (f : Rw → Bool) (S : List Rw) (v : Value) (i : Nat) : Prop := RowB wr w.heap.size v ((S.take i).filter f) ∧ Keeps (fun _ => False) w wr

set_option maxHeartbeats 2000000 in
set_option maxRecDepth 100000 in
theorem ref_drop_some (w : World) (y : Nat) (S : List Rw) (h : RefAt w y S) (hr : Rise S) (d : Int) (s : ByteArray) (hh : hasS S d s = true) (hl : S.length < 4000000000000) :
    Calls Try.prog 40 #[.pointer (some ⟨y, 0, none⟩), .int .i64 d, .string s] w fun e w' => e = .returned (.tuple #[.int .i64 (getS S d s), .int .i64 0]) ∧ Hid (RefAt w' y (delS S d s) ∧ Keeps (fun k => k = y) w w') := by
  have h61 := find_any w y S h d s hl
  obtain ⟨j, hj, e1, _, e2, hsm⟩ := fnd_some hr hh
  obtain ⟨vr, hy, hrr⟩ := h
  obtain ⟨p, cap, rfl⟩ := hrr.shape
  obtain ⟨g, rfl, hc⟩ := hrr.at (by omega)
  have c0 := (refcell hy).1
  have c1 := (hc j hj).2.2
  rw [← e2] at c1
  rw [e1] at h61
  have hj0 : ¬ (j : Int) < 0 := by omega
  have hj1 : (j : Int) < (S.length : Int) := by omega
  have HY : Hid (w.heap[y]? = some (.cells #[.slice (some ⟨g, 0, none⟩) S.length cap] 74 (0, 0))) := hy
  have HC : Hid (∀ i, i < S.length → w.cell? ⟨g, i * 3, none⟩ = some (.int .i64 (S.getD i rz).1) ∧ w.cell? ⟨g, i * 3 + 1, none⟩ = some (.string (S.getD i rz).2.1) ∧ w.cell? ⟨g, i * 3 + 2, none⟩ = some (.int .i64 (S.getD i rz).2.2)) := hc
  have HSM : Hid (∀ i, i < S.length → same d s (S.getD i rz) = decide (i = j)) := hsm
  generalize getS S d s = gv at *
  clear hc hy hrr e1 e2 hh hr hsm
  go_enter Try.func40, Try.ntmps40
  go_wp2_with (first | (go_at_call 61; refine h61.mono ?_; rintro e w0 ⟨rfl, hw0⟩; subst w0))
  clear h61
  go_loopw [10, 11] (fun v i wr => ∃ k : Nat, k ≤ S.length ∧ i = .int .i64 k ∧ Hid (PkR w wr (fun r => !same d s r) S v k)) (fun _ i _ => S.length - (intOf i).toNat)
  case atStart => exact ⟨0, Nat.zero_le _, rfl, ⟨rfl, Or.inl ⟨rfl, rfl⟩⟩, Keeps.refl _ _⟩
  case round =>
    obtain ⟨k, hk, rfl, HR⟩ := hrel
    have c2 := HR.out.2.cell c0 (fun h => h)
    by_cases h1 : k < S.length
    · obtain ⟨q0, q1, q2⟩ := HC.out k h1
      have q0 := HR.out.2.cell q0 (fun h => h)
      have q1 := HR.out.2.cell q1 (fun h => h)
      have q2 := HR.out.2.cell q2 (fun h => h)
      have hst := filt_step (fun r => !same d s r) h1
      have hsm := HSM.out k h1
      generalize S.getD k rz = q at q0 q1 q2 hst hsm
      obtain ⟨qd, qs, qi⟩ := q
      simp only at q0 q1 q2
      have h1' : (k : Int) < (S.length : Int) := by omega
      by_cases hkj : k = j
      · have hk2 : ((k : Int) != (j : Int)) = false := by simp [hkj]
        have hk3 : ((k : Int) == (j : Int)) = true := by simp [hkj]
        have HF : Hid (PkR w wr (fun r => !same d s r) S u10 (k + 1)) := by
          refine ⟨?_, HR.out.2⟩
          rw [hst, hsm]; simp only [hkj, decide_true, Bool.not_true, Bool.false_eq_true, if_false, List.append_nil]
          rw [← hkj]; exact HR.out.1
        clear hst hsm hkj
        go_wp2
        go_roundw
        case rel => exact ⟨k + 1, by omega, by go_num, HF⟩
        case measure => simp [intOf]; omega
      · have hk2 : ((k : Int) != (j : Int)) = true := by simp; omega
        have hk3 : ((k : Int) == (j : Int)) = false := by simp; omega
        have HLN : Hid (((S.take k).filter (fun r => !same d s r)).length < 4000000000000) := by
          have := filt_take_le (fun r => !same d s r) S k
          show _ < _
          omega
        have HST : Hid ((S.take (k + 1)).filter (fun r => !same d s r) = (S.take k).filter (fun r => !same d s r) ++ [(qd, qs, qi)]) := by
          show _ = _
          rw [hst, hsm]; simp [hkj]
        have HN : Hid ((wr.alloc (.cells #[.int .i64 qd, .string qs, .int .i64 qi] 89)).heap[wr.heap.size]? = some (.cells #[.int .i64 qd, .string qs, .int .i64 qi] 89 (0, 0))) := heap_alloc_last wr _
        clear hst hsm hkj
        go_wp2_with (first
          | (at_builtin; go_must (refine wpList_app _ rfl _ _ rfl w.heap.size _ _ (qd, qs, qi) rfl (HR.out.1.alloc _) wr.heap.size rfl HN.out (by have := HLN.out; omega) (by have := HR.out.2.size; simp; omega) ?_); intro v3 w3 hrow3 hgr3))
        have HF : Hid (PkR w w3 (fun r => !same d s r) S v3 (k + 1)) := ⟨by rw [HST.out]; exact hrow3, own_new (HR.out.2.alloc _) (HR.out.1.alloc _) hgr3⟩
        clear hrow3 hgr3
        go_roundw
        case rel => exact ⟨k + 1, by omega, by go_num, HF⟩
        case measure => simp [intOf]; omega
    · have h1' : ¬ (k : Int) < (S.length : Int) := by omega
      have HE : Hid (S.take k = S) := List.take_of_length_le (by omega)
      have HYR := HR.out.2.at HY.out (fun h => h)
      have c3 := (refcell HYR).2
      obtain ⟨p3, n3, c3', rfl⟩ := HR.out.1.row.shape'
      have HF : Hid (RefAt (wr.setCell ⟨y, 0, none⟩ (.slice p3 n3 c3')) y (delS S d s) ∧ Keeps (fun k => k = y) w (wr.setCell ⟨y, 0, none⟩ (.slice p3 n3 c3'))) := by
        have h1 := HR.out.1
        rw [HE.out] at h1
        exact ref_set HR.out.2 HYR h1
      clear HYR
      go_wp2
      go_ret2
      exact ⟨rfl, HF⟩

theorem ref_drop (w : World) (y : Nat) (S : List Rw) (h : RefAt w y S) (hr : Rise S) (d : Int) (s : ByteArray) (hl : S.length < 4000000000000) :
    Calls Try.prog 40 #[.pointer (some ⟨y, 0, none⟩), .int .i64 d, .string s] w fun e w' => e = .returned (.tuple #[.int .i64 (getS S d s), .int .i64 (dropE S d s)]) ∧ Hid (RefAt w' y (delS S d s) ∧ Keeps (fun k => k = y) w w') := by
  rcases Bool.eq_false_or_eq_true (hasS S d s) with hh | hh
  · have e : dropE S d s = 0 := by simp [dropE, hh]
    rw [e]; exact ref_drop_some w y S h hr d s hh hl
  · have e : dropE S d s = 82 := by simp [dropE, hh]
    rw [e, getS_none hh, del_none hh]
    have h61 := find_any w y S h d s hl
    rw [fnd_none hh] at h61
    have HY : Hid (RefAt w y S) := h
    clear h
    go_enter Try.func40, Try.ntmps40
    go_wp2_with (first | (go_at_call 61; refine h61.mono ?_; rintro e w0 ⟨rfl, hw0⟩; subst w0))
    go_ret2
    exact ⟨rfl, HY.out, Keeps.refl _ _⟩

end Go.Proofs.Ytendmohjodeelab
