import Derived.Test.YtndojlacdggfcabH5
namespace Go.Proofs.Ytndojlacdggfcab
open Go.RowKit

set_option maxRecDepth 100000 in
set_option maxHeartbeats 2000000 in
theorem ref_runs (w : World) (b : Nat) (f : Nat → Int) (h : RefAt w b f) : Calls Try.prog 46 #[.pointer (some ⟨b, 0, none⟩)] w fun e w' =>
    ∃ s, e = .returned s ∧ Hid (Keeps (fun _ => False) w w' ∧ w'.ownsRow w.heap.size 38 3 s (runsOf (els f 0 0 512)).length (rflat (runsOf (els f 0 0 512)))) := by
  obtain ⟨i0, hi, hz0, hz1, hz2⟩ := info_parts info38
  have HR := Hid.mk' h
  clear h
  go_enter Try.func46, Try.ntmps46
  go_wp2
  go_loopw [3, 4] (fun v i wr => ∃ k : Nat, k ≤ 512 ∧ i = .int .i64 k ∧ Hid (Keeps (fun _ => False) w wr ∧ wr.ownsRow w.heap.size 38 3 v (runsOf (els f 0 0 k)).length (rflat (runsOf (els f 0 0 k))))) (fun _ i _ => 512 - (intOf i).toNat)
  case atStart => exact ⟨0, by omega, rfl, Keeps.refl _ _, World.ownsRow_nil _ _ _ _⟩
  case round =>
    obtain ⟨k, hk, rfl, hrel⟩ := hrel
    have hrow := hrel.out.2
    have hle := hrel.out.1.size
    have hln := Nat.le_trans (runsOf_len (els f 0 0 k)) (els_len f 0 0 k)
    have hR : RefAt wr b f := hrel.out.1.at HR.out id
    by_cases h1 : k < 512
    · have h1' : (k : Int) < 512 := by omega
      have hc := ref_cell hR k h1
      by_cases h3 : f k = 0
      · rw [h3] at hc
        have HS := Hid.mk' (runs_none f k h1 h3)
        go_wp2
        go_roundw
        case rel => exact ⟨k + 1, by omega, by go_num, by rw [HS.out]; exact hrel⟩
        case measure => simp [intOf]; omega
      · have h3b : (f k == 0) = false := by simpa using h3
        by_cases h0 : k = 0
        · subst h0
          have HB := Hid.mk' (runs_begin f 0 h1 h3 (.inl rfl))
          generalize runsOf (els f 0 0 0) = L at *
          have hd0 : decide ((0 : Int) < ((0 : Nat) : Int)) = false := by decide
          go_wp2
          go_quiet (fail)
          go_wp2_with (at_builtin; refine wpList_append_own _ rfl _ _ 27 rfl w.heap.size 38 i0 (.agg #[.int .i64 0, .int .i64 0, .int .i64 0]) 3 24 Try.underlying27 hi hz0 hz1 hz2 rfl (by decide) _ _ _ rfl (World.ownsRow.alloc hrow _) ⟨wr.heap.size, 0, none⟩ 1 1 [.int .i64 0, .int .i64 (f 0), .int .i64 1] rfl rfl (cells_three_new _ _ _ _ _) (by simp [Value.oneCell']) (by simp [maxLen]; omega) (by omega) (by simp; omega) ?_; intro v' w1 hown' hgrow _; have HA := Hid.mk' (And.intro hown' hgrow); clear hown' hgrow)
          go_roundw
          case rel => exact ⟨1, by omega, by go_num, keeps_append (hrel.out.1.trans (Keeps.drewN _ _ _)) (ownsRow_keeps hrow (Keeps.drewN (fun _ => False) _ _) (fun _ _ h => h)) HA.out.2, by rw [HB.out, rflat_snoc]; simpa [rcells] using HA.out.1⟩
          case measure => simp [intOf]
        · obtain ⟨j, rfl⟩ : ∃ j, k = j + 1 := ⟨k - 1, by omega⟩
          have hcj := ref_cell hR j (by omega)
          have hj0 : (0 : Int) < (j : Int) + 1 := by omega
          have hw1 : IntKind.i64.wrap ((j : Int) + 1 - 1) = j := by rw [show (j : Int) + 1 - 1 = j by omega]; exact i64_id (by omega) (by omega)
          have hw2 : IntKind.i64.wrap (j : Int) = j := i64_id (by omega) (by omega)
          have hj1 : (j : Int) < 512 := by omega
          have hj2 : (j : Int) + 1 < 512 := by omega
          have hrowd : ∀ n, (wr.drewN n).ownsRow w.heap.size 38 3 _ _ _ := fun n => ownsRow_keeps hrow (Keeps.drewN (fun _ => False) wr n) (fun _ _ h => h)
          by_cases h4 : f j = 0
          · have HB := Hid.mk' (runs_begin f (j + 1) h1 h3 (.inr (.inl h4)))
            rw [h4] at hcj
            have hln' := hln
            generalize hLL : runsOf (els f 0 0 (j + 1)) = L at *
            go_wp2
            go_quiet (fail)
            go_wp2_with (at_builtin; refine wpList_append_own _ rfl _ _ 27 rfl w.heap.size 38 i0 (.agg #[.int .i64 0, .int .i64 0, .int .i64 0]) 3 24 Try.underlying27 hi hz0 hz1 hz2 rfl (by decide) _ _ _ rfl (World.ownsRow.alloc (hrowd _) _) ⟨wr.heap.size, 0, none⟩ 1 1 [.int .i64 ((j : Int) + 1), .int .i64 (f (j + 1)), .int .i64 1] rfl rfl (cells_three_new _ _ _ _ _) (by simp [Value.oneCell']) (by simp [maxLen]; omega) (by omega) (by simp; omega) ?_; intro v' w1 hown' hgrow _; have HA := Hid.mk' (And.intro hown' hgrow); clear hown' hgrow)
            go_roundw
            case rel => exact ⟨j + 2, by omega, by go_num, keeps_append (hrel.out.1.trans (Keeps.drewN _ _ _)) (ownsRow_keeps hrow (Keeps.drewN (fun _ => False) _ _) (fun _ _ h => h)) HA.out.2, by rw [HB.out, rflat_snoc]; simpa [rcells] using HA.out.1⟩
            case measure => simp [intOf]; omega
          · have h4b : (f j == 0) = false := by simpa using h4
            have h4c : (f j != 0) = true := by simpa using h4
            have hj4 : (0 : Int) ≤ (j : Int) + 1 := by omega
            have hwrap : IntKind.i64.wrap (f j + 1) = wrap64 (f j + 1) := by rw [IntKind.wrap_i64]; unfold wrap64; omega
            by_cases h5 : wrap64 (f j + 1) = f (j + 1)
            · obtain ⟨l, r, hL1, hL2, g1, g5⟩ := runs_goon f (j + 1) h1 h3 (by omega) h4 h5
              have h5b : (wrap64 (f j + 1) == f (j + 1)) = true := by simpa using h5
              rw [hL1, List.length_append, List.length_singleton] at hrow hln
              obtain ⟨gb, cap, rfl⟩ := ownsRow_succ hrow
              have hrow2 : ∀ n, (wr.drewN n).ownsRow w.heap.size 38 3 (.slice (some ⟨gb, 0, none⟩) (l.length + 1) cap) (l.length + 1) (rflat (l ++ [r])) := fun n => ownsRow_keeps hrow (Keeps.drewN (fun _ => False) wr n) (fun _ _ h => h)
              obtain ⟨r0, r1, r2⟩ := rflat_cells hrow rfl
              have hfr : wr.frozen? ⟨gb, l.length * 3 + 2, none⟩ = false := by
                rcases hrow.2 with ⟨h, _⟩ | ⟨g', cap', cur, h, _, hg, _⟩
                · cases h
                · cases h; simp [World.frozen?, hg]
              have hgb := (hrow.lt gb rfl).1
              have HN := Hid.mk' (fun n => And.intro (ownsRow_set (hrow2 n) rfl (l.length * 3 + 2) (.int .i64 (r.2.2 + 1))) ((hrel.out.1.trans (Keeps.drewN (fun _ => False) wr n)).step (grownBy_setCell (wr.drewN n) ⟨gb, l.length * 3 + 2, none⟩ (.int .i64 (r.2.2 + 1))) (by rintro c hc; cases hc; exact .inr hgb)))
              have HL2 := Hid.mk' hL2
              have HREL := hrel
              clear hrowd hrow2 hrow hL1 hL2 hrel h5
              generalize wrap64 (f j + 1) = c at *
              go_wp2
              go_quiet (fail)
              go_wp2
              go_roundw
              case rel =>
                refine ⟨j + 2, by omega, by go_num, (HN.out _).2, ?_⟩
                rw [HL2.out, ← rflat_set, List.length_append, List.length_singleton]
                exact (HN.out _).1
              case measure => simp [intOf]; omega
            · have HB := Hid.mk' (runs_begin f (j + 1) h1 h3 (.inr (.inr h5)))
              have h5b : (wrap64 (f j + 1) == f (j + 1)) = false := by simpa using h5
              generalize runsOf (els f 0 0 (j + 1)) = L at *
              generalize wrap64 (f j + 1) = c at *
              go_wp2
              go_quiet (fail)
              go_wp2_with (at_builtin; refine wpList_append_own _ rfl _ _ 27 rfl w.heap.size 38 i0 (.agg #[.int .i64 0, .int .i64 0, .int .i64 0]) 3 24 Try.underlying27 hi hz0 hz1 hz2 rfl (by decide) _ _ _ rfl (World.ownsRow.alloc (hrowd _) _) ⟨wr.heap.size, 0, none⟩ 1 1 [.int .i64 ((j : Int) + 1), .int .i64 (f (j + 1)), .int .i64 1] rfl rfl (cells_three_new _ _ _ _ _) (by simp [Value.oneCell']) (by simp [maxLen]; omega) (by omega) (by simp; omega) ?_; intro v' w1 hown' hgrow _; have HA := Hid.mk' (And.intro hown' hgrow); clear hown' hgrow)
              go_roundw
              case rel => exact ⟨j + 2, by omega, by go_num, keeps_append (hrel.out.1.trans (Keeps.drewN _ _ _)) (ownsRow_keeps hrow (Keeps.drewN (fun _ => False) _ _) (fun _ _ h => h)) HA.out.2, by rw [HB.out, rflat_snoc]; simpa [rcells] using HA.out.1⟩
              case measure => simp [intOf]; omega
    · obtain rfl : k = 512 := by omega
      go_wp2
      go_ret
      exact ⟨_, rfl, hrel⟩

end Go.Proofs.Ytndojlacdggfcab
