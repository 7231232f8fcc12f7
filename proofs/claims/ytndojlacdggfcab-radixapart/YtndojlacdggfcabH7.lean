import Derived.Test.YtndojlacdggfcabH6
namespace Go.Proofs.Ytndojlacdggfcab
open Go.RowKit

set_option maxRecDepth 100000 in
set_option maxHeartbeats 2000000 in
theorem ref_load (w : World) (p : Option Addr) (l : List Rn) (cap : Nat) (hp : RnIn w p l) (hl : l.length ≤ maxLen) (hb : ∀ r ∈ l, bdR r) :
    Calls Try.prog 47 #[.slice p l.length cap] w (LoadTold w l RefAt) := by
  have hml : l.length ≤ 9223372036854775807 := Nat.le_trans hl (by decide)
  have HP := Hid.mk' hp
  have HB := Hid.mk' hb
  have hnew' : Calls Try.prog 38 #[] w fun e w' => ∃ t, e = .returned (.pointer (some ⟨t, 0, none⟩)) ∧ Hid (t = w.heap.size ∧ Keeps (fun _ => False) w w' ∧ RefAt w' t (fun _ => 0)) :=
    (ref_new w).mono fun e w' ⟨he, hw⟩ => ⟨_, he, rfl, by rw [hw]; exact Keeps.new w _, by rw [hw]; exact (MapKept.heap_alloc w _).1⟩
  clear hp hl hb
  go_enter Try.func47, Try.ntmps47
  go_wp2_with (first | (go_at_call 38; refine hnew'.mono ?_; rintro e w1 ⟨t, rfl, H1⟩))
  go_loopw [5] (fun i wr => ∃ k : Nat, k ≤ l.length ∧ i = .int .i64 k ∧ Hid ((l.take k).all okRun = true ∧ Keeps (fun _ => False) w wr ∧ RefAt wr t (loadTo (l.take k)))) (fun i _ => l.length - (intOf i).toNat)
  case atStart => exact ⟨0, by omega, rfl, rfl, H1.out.2⟩
  case round =>
    obtain ⟨k, hk, rfl, hrel⟩ := hrel
    by_cases h1 : k < l.length
    · obtain ⟨b, o, rfl, hbl, hc⟩ := HP.out (by omega)
      have c0 := hrel.out.2.1.cell (hc k h1).1 id
      have c1 := hrel.out.2.1.cell (hc k h1).2.1 id
      have c2 := hrel.out.2.1.cell (hc k h1).2.2 id
      have hbd := HB.out _ (getD_mem (d := rz) h1)
      have htk := take_getD rz h1
      have hmem : l.getD k rz ∈ l := getD_mem h1
      have HMEM := Hid.mk' hmem
      generalize l.getD k rz = r at *
      obtain ⟨rO, rP, rC⟩ := r
      simp only at c0 c1 c2
      have h1' : (k : Int) < (l.length : Int) := by omega
      have HTK := Hid.mk' htk
      have hKb := Keeps.new wr (.cells #[.int .i64 rO, .int .i64 rP, .int .i64 rC] 38)
      have hBx := (MapKept.heap_alloc wr (.cells #[.int .i64 rO, .int .i64 rP, .int .i64 rC] 38)).1
      obtain ⟨hb1, hb2, hb3, hb4⟩ := hbd
      simp only at hb1 hb2 hb3 hb4
      have HX := Hid.mk' (And.intro hKb hBx)
      have HREL := hrel
      clear hc htk hmem hKb hBx
      have hbad : okRun (rO, rP, rC) = false → LoadTold w l RefAt (.returned (.tuple #[.pointer none, .int .i64 70])) (wr.alloc (.cells #[.int .i64 rO, .int .i64 rP, .int .i64 rC] 38)) := fun hok =>
        .inr ⟨by rw [List.all_eq_false]; exact ⟨_, HMEM.out, by rw [hok]; decide⟩, rfl, HREL.out.2.1.trans HX.out.1⟩
      have HBAD := Hid.mk' hbad
      clear hbad hrel
      by_cases e1 : 1 ≤ rC
      · by_cases e2 : 1 ≤ rP
        · by_cases e3 : 0 ≤ rO
          · by_cases e4 : rO < 512
            · by_cases e5 : rC ≤ 512 - rO
              · obtain ⟨C, rfl⟩ := Int.eq_ofNat_of_zero_le (show 0 ≤ rC by omega)
                obtain ⟨O, rfl⟩ := Int.eq_ofNat_of_zero_le e3
                have HOK := Hid.mk' (show okRun ((O : Int), rP, (C : Int)) = true by simp [okRun]; omega)
                have hOC : O + C ≤ 512 := by omega
                have htl := heap_lt HREL.out.2.2
                have htw : wr.heap.size ≠ t := by omega
                obtain ⟨w2, hw2⟩ : ∃ w2, wr.alloc (.cells #[.int .i64 (O : Int), .int .i64 rP, .int .i64 (C : Int)] 38) = w2 := ⟨_, rfl⟩
                have hbx : w2.heap[wr.heap.size]? = some (.cells #[.int .i64 (O : Int), .int .i64 rP, .int .i64 (C : Int)] 38 (0, 0)) := by rw [← hw2]; exact HX.out.2
                have H2 := Hid.mk' (show Keeps (fun _ => False) w w2 ∧ RefAt w2 t (loadTo (l.take k)) by rw [← hw2]; exact ⟨HREL.out.2.1.trans HX.out.1, HX.out.1.at HREL.out.2.2 id⟩)
                have y0 : w2.cell? ⟨wr.heap.size, 0, none⟩ = some (.int .i64 (O : Int)) := by simp [World.cell?, hbx]
                have y1 : w2.cell? ⟨wr.heap.size, 1, none⟩ = some (.int .i64 rP) := by simp [World.cell?, hbx]
                have y2 : w2.cell? ⟨wr.heap.size, 2, none⟩ = some (.int .i64 (C : Int)) := by simp [World.cell?, hbx]
                clear hbx
                go_wp2
                clear hw2
                go_loopw [7] (fun c wx => ∃ j : Nat, j ≤ C ∧ c = .int .i64 j ∧ Hid (Keeps (fun c => c = t) w2 wx ∧ RefAt wx t (layN (loadTo (l.take k)) ((O : Int), rP, (C : Int)) j))) (fun c _ => C - (intOf c).toNat)
                case atStart => exact ⟨0, by omega, rfl, Keeps.refl _ _, by rw [layN_zero]; exact H2.out.2⟩
                case round =>
                  obtain ⟨j, hj, rfl, hrel2⟩ := hrel
                  have z0 := hrel2.out.1.cell y0 htw
                  have z1 := hrel2.out.1.cell y1 htw
                  have z2 := hrel2.out.1.cell y2 htw
                  by_cases hlj : j < C
                  · have hlj' : (j : Int) < (C : Int) := by omega
                    have s0 := ref_cell hrel2.out.2 (O + j) (by omega)
                    have s1 := ref_frozen hrel2.out.2 (O + j)
                    have hset := ref_set hrel2.out.2 (O + j) (wrap64 (rP + (j : Int)))
                    have hks := Keeps.of (X := fun c => c = t) (grownBy_setCell wr ⟨t, O + j, none⟩ (.int .i64 (wrap64 (rP + (j : Int))))) (by rintro c hc; cases hc; exact .inl rfl)
                    have HN := Hid.mk' (And.intro (hrel2.out.1.trans hks) hset)
                    have hs1 : IntKind.i64.wrap ((O : Int) + (j : Int)) = ((O + j : Nat) : Int) := by rw [Int.natCast_add]; exact i64_id (by omega) (by omega)
                    have hs2 : IntKind.i64.wrap (rP + (j : Int)) = wrap64 (rP + (j : Int)) := by rw [IntKind.wrap_i64]; unfold wrap64; omega
                    have hq1 : (((O + j : Nat) : Int)) < 512 := by omega
                    have hq2 : (0 : Int) ≤ ((O + j : Nat) : Int) := by omega
                    have HL := Hid.mk' (show layN (loadTo (l.take k)) ((O : Int), rP, (C : Int)) (j + 1) = upd (layN (loadTo (l.take k)) ((O : Int), rP, (C : Int)) j) (O + j) (wrap64 (rP + (j : Int))) by rw [layN_succ]; simp)
                    generalize wrap64 (rP + (j : Int)) = wv at *
                    obtain ⟨Q, hQ⟩ : ∃ Q, O + j = Q := ⟨_, rfl⟩
                    rw [hQ] at s0 s1 HN hs1 hq1 hq2 HL
                    clear hset hks
                    go_wp2
                    go_region
                    all_goals
                      go_wp2
                      go_roundw
                      case rel => exact ⟨j + 1, by omega, by go_num, HN.out.1.trans (Keeps.drewN _ _ 1), by rw [HL.out]; exact HN.out.2⟩
                      case measure => simp [intOf]; omega
                  · have hlj' : ¬ (j : Int) < (C : Int) := by omega
                    have HJ := Hid.mk' (show j = C by omega)
                    go_wp2
                    go_roundw
                    case rel =>
                      refine ⟨k + 1, by omega, by go_num, ?_, keeps_new H2.out.1 hrel2.out.1 (Nat.le_of_eq H1.out.1.symm), ?_⟩
                      · rw [HTK.out, List.all_append, HREL.out.1]; simp [HOK.out]
                      · rw [HTK.out, loadTo_snoc]; simp only [Int.toNat_natCast]; rw [← HJ.out]; exact hrel2.out.2
                    case measure => simp [intOf]; omega
              · have e5' : 512 - rO < rC := by omega
                go_wp2
                go_ret2
                exact HBAD.out (by simp [okRun]; omega)
            · have e4' : 512 ≤ rO := by omega
              go_wp2
              go_ret2
              exact HBAD.out (by simp [okRun]; omega)
          · have e3' : rO < 0 := by omega
            go_wp2
            go_ret2
            exact HBAD.out (by simp [okRun]; omega)
        · have e2' : rP < 1 := by omega
          go_wp2
          go_ret2
          exact HBAD.out (by simp [okRun]; omega)
      · have e1' : rC < 1 := by omega
        go_wp2
        go_ret2
        exact HBAD.out (by simp [okRun]; omega)
    · have h1' : ¬ (k : Int) < (l.length : Int) := by omega
      have HE := Hid.mk' (show l.take k = l by rw [List.take_of_length_le (by omega)])
      go_wp2
      go_ret2
      have h := hrel.out
      rw [HE.out] at h
      exact .inl ⟨h.1, t, rfl, H1.out.1, h.2⟩

end Go.Proofs.Ytndojlacdggfcab
