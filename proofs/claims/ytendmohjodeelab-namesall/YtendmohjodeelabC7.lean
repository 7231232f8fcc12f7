import Derived.Test.YtendmohjodeelabC6
import Derived.Test.YtendmohjodeelabC1
namespace Go.Proofs.Ytendmohjodeelab
open Go.RowKit Go.Maps Go.Great

set_option maxHeartbeats 2000000 in
set_option maxRecDepth 100000 in
theorem ref_clear (w0 : World) (y : Nat) (S : List Rw) (h : RefAt w0 y S) (d : Int) (hl : S.length < 4000000000000) :
    Calls Try.prog 46 #[.pointer (some ⟨y, 0, none⟩), .int .i64 d] w0 fun e w' => e = .returned (.int .i64 ((S.filter (inDir d)).length : Int)) ∧ Hid (RefAt w' y (clrS S d) ∧ Keeps (fun k => k = y) w0 w') := by
  have h42 := ref_len w0 y S h d hl
  have HY0 : Hid (RefAt w0 y S) := h
  generalize (S.filter (inDir d)).length = m at *
  clear h
  go_enter Try.func46, Try.ntmps46
  go_wp2_with (first | (go_at_call 42; refine h42.mono ?_; rintro e w ⟨rfl, hk0⟩; have HK0 : Hid (Keeps (fun _ => False) w0 w) := hk0; clear hk0 h42; have HYW : Hid (RefAt w y S) := HY0.out.grown HK0.out; obtain ⟨vr, hy, hrr⟩ := HYW.out; obtain ⟨p, cap, rfl⟩ := hrr.shape; have c0 := (refcell hy).1; have HY : Hid (w.heap[y]? = some (.cells #[.slice p S.length cap] 74 (0, 0))) := hy; have HRW : Hid (RowR w (.slice p S.length cap) S) := hrr; clear hy hrr))
  go_loopw [6, 7] (fun v i wr => ∃ k : Nat, k ≤ S.length ∧ i = .int .i64 k ∧ Hid (PkR w wr (fun r => !inDir d r) S v k)) (fun _ i _ => S.length - (intOf i).toNat)
  case atStart => exact ⟨0, Nat.zero_le _, rfl, ⟨rfl, Or.inl ⟨rfl, rfl⟩⟩, Keeps.refl _ _⟩
  case round =>
    obtain ⟨k, hk, rfl, HR⟩ := hrel
    have c2 := HR.out.2.cell c0 (fun h => h)
    by_cases h1 : k < S.length
    · obtain ⟨g, rfl, hc⟩ := HRW.out.at (by omega)
      obtain ⟨q0, q1, q2⟩ := hc k h1
      clear hc
      have q0 := HR.out.2.cell q0 (fun h => h)
      have q1 := HR.out.2.cell q1 (fun h => h)
      have q2 := HR.out.2.cell q2 (fun h => h)
      have hst := filt_step (fun r => !inDir d r) h1
      generalize S.getD k rz = q at q0 q1 q2 hst
      obtain ⟨qd, qs, qi⟩ := q
      simp only at q0 q1 q2
      have h1' : (k : Int) < (S.length : Int) := by omega
      rcases Bool.eq_false_or_eq_true (decide (qd = d)) with hd | hd
      · have hk2 : (qd != d) = false := by simpa using hd
        have hk3 : (qd == d) = true := by simpa using hd
        have HF : Hid (PkR w wr (fun r => !inDir d r) S u6 (k + 1)) := by
          refine ⟨?_, HR.out.2⟩
          rw [hst]; simp only [inDir, hd, Bool.not_true, Bool.false_eq_true, if_false, List.append_nil]
          exact HR.out.1
        clear hst hd
        go_wp2
        go_roundw
        case rel => exact ⟨k + 1, by omega, by go_num, HF⟩
        case measure => simp [intOf]; omega
      · have hk2 : (qd != d) = true := by simpa using hd
        have hk3 : (qd == d) = false := by simpa using hd
        have HLN : Hid (((S.take k).filter (fun r => !inDir d r)).length < 4000000000000) := by
          have := filt_take_le (fun r => !inDir d r) S k
          show _ < _
          omega
        have HST : Hid ((S.take (k + 1)).filter (fun r => !inDir d r) = (S.take k).filter (fun r => !inDir d r) ++ [(qd, qs, qi)]) := by
          show _ = _
          rw [hst]; simp [inDir, hd]
        have HN : Hid ((wr.alloc (.cells #[.int .i64 qd, .string qs, .int .i64 qi] 89)).heap[wr.heap.size]? = some (.cells #[.int .i64 qd, .string qs, .int .i64 qi] 89 (0, 0))) := heap_alloc_last wr _
        clear hst hd
        go_wp2_with (first
          | (at_builtin; go_must (refine wpList_app _ rfl _ _ rfl w.heap.size _ _ (qd, qs, qi) rfl (HR.out.1.alloc _) wr.heap.size rfl HN.out (by have := HLN.out; omega) (by have := HR.out.2.size; simp; omega) ?_); intro v3 w3 hrow3 hgr3))
        have HF : Hid (PkR w w3 (fun r => !inDir d r) S v3 (k + 1)) := ⟨by rw [HST.out]; exact hrow3, own_new (HR.out.2.alloc _) (HR.out.1.alloc _) hgr3⟩
        clear hrow3 hgr3
        go_roundw
        case rel => exact ⟨k + 1, by omega, by go_num, HF⟩
        case measure => simp [intOf]; omega
    · have h1' : ¬ (k : Int) < (S.length : Int) := by omega
      have HE : Hid (S.take k = S) := List.take_of_length_le (by omega)
      have HYR := HR.out.2.at HY.out (fun h => h)
      have c3 := (refcell HYR).2
      obtain ⟨p3, n3, c3', rfl⟩ := HR.out.1.row.shape'
      have HF : Hid (RefAt (wr.setCell ⟨y, 0, none⟩ (.slice p3 n3 c3')) y (clrS S d) ∧ Keeps (fun k => k = y) w (wr.setCell ⟨y, 0, none⟩ (.slice p3 n3 c3'))) := by
        have h1 := HR.out.1
        rw [HE.out] at h1
        exact ref_set HR.out.2 HYR h1
      clear HYR
      go_wp2
      go_ret
      exact ⟨rfl, HF.out.1, (HK0.out.mono (fun _ _ h => h.elim)).trans HF.out.2⟩

set_option maxHeartbeats 2000000 in
set_option maxRecDepth 100000 in
theorem ref_copy (w : World) (y : Nat) (S : List Rw) (h : RefAt w y S) (hl : S.length < 4000000000000) :
    Calls Try.prog 32 #[.pointer (some ⟨y, 0, none⟩)] w fun e w' => e = .returned (.pointer (some ⟨w.heap.size, 0, none⟩)) ∧ Hid (RefAt w' w.heap.size S ∧ Keeps (fun _ => False) w w') := by
  obtain ⟨i0, hi, hz0, hz1, hz2⟩ := info_parts info89
  obtain ⟨vr, hy, hr⟩ := h
  obtain ⟨p, cap, rfl⟩ := hr.shape
  obtain ⟨W, hW⟩ : ∃ W, W = w.alloc (.cells #[.slice none 0 0] 74) := ⟨_, rfl⟩
  have hk : Keeps (fun _ => False) w W := by rw [hW]; exact (Keeps.refl _ w).alloc _
  have c0 := (refcell (hk.at hy (fun h => h))).1
  have hn : W.heap[w.heap.size]? = some (.cells #[.slice none 0 0] 74 (0, 0)) := by rw [hW]; exact heap_alloc_last w _
  have c1 := (refcell hn).1
  have hrW := hr.grown hk
  have hcells : 0 < S.length → ∃ ad, p = some ad ∧ ∀ j u, (rcells S)[j]? = some u → W.cell? (ad.add j) = some u := by
    intro h0
    rcases hrW.2 with ⟨e, h1⟩ | ⟨g, cap', cur, e, _⟩
    · omega
    · cases e
      exact ⟨_, rfl, World.ownsRow.cells hrW rfl⟩
  obtain ⟨v', w', hrun, hrow, hgr⟩ := run_append_any (P := Try.prog) W.drew W.heap.size 72 72 89 i0 _ 3 32 Try.underlying72 hi hz0 hz1 hz2 rfl (by decide) (.slice none 0 0) 0 [] (World.ownsRow_nil _ _ _ _) p S.length cap (rcells S) (rcells_len S) hcells (rcells_one S) (by unfold maxLen; omega) (by omega) (Nat.le_refl _)
  have hkW : Keeps (fun _ => False) W w' := by
    have h1 : Keeps (fun _ => False) W W.drew := Keeps.drewN _ W 1
    exact h1.step hgr (by simp [Value.ownBlock])
  have hn' : w'.heap[w.heap.size]? = some (.cells #[.slice none 0 0] 74 (0, 0)) := hkW.at hn (fun h => h)
  have hrow' : RowB w' W.heap.size v' S := by unfold RowB; simpa using hrow
  obtain ⟨p3, n3, c3, rfl⟩ := hrow'.row.shape'
  have c2 := (refcell hn').1
  have c3' := (refcell hn').2
  have HF : Hid (RefAt (w'.setCell ⟨w.heap.size, 0, none⟩ (.slice p3 n3 c3)) w.heap.size S ∧ Keeps (fun _ => False) w (w'.setCell ⟨w.heap.size, 0, none⟩ (.slice p3 n3 c3))) := by
    have h1 := ref_set (hk.trans hkW) hn' hrow'
    exact ⟨h1.1, (hk.trans hkW).step (grownBy_setCell w' ⟨w.heap.size, 0, none⟩ _) (by rintro k e; cases e; exact Or.inr (Nat.le_refl _))⟩
  clear hrow hrow' hgr hn' hn hkW hrW hk hr hy hcells
  go_enter Try.func32, Try.ntmps32
  go_wp2
  rw [← hW]
  clear hW
  go_region_law (refine step_app rfl _ _ 72 rfl _ _ (.slice p3 n3 c3) w' rfl rfl hrun ?_)
  all_goals
    go_wp2
    go_ret
    exact ⟨rfl, HF⟩

end Go.Proofs.Ytendmohjodeelab
