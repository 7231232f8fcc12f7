import Derived.Test.YtndojlacdggfcabI3
namespace Go.Proofs.Ytndojlacdggfcab
open Go.RowKit

set_option maxRecDepth 100000 in
set_option maxHeartbeats 2000000 in
theorem begin_any (w : World) : Calls Try.prog 33 #[] w fun e w' => ∃ b, e = .returned (.tuple #[.pointer (some ⟨b, 0, none⟩), .bool true]) ∧ Hid (b = w.heap.size ∧ Keeps (fun _ => False) w w' ∧ ∃ ts rs ps qs, BegAt w' b 3 ts rs (fun _ _ => 0) ps qs ∧ ∀ j, j < 3 → w.heap.size ≤ ts j ∧ w.heap.size ≤ rs j) := by
  obtain ⟨b, hb⟩ : ∃ b, w.heap.size = b := ⟨_, rfl⟩
  have hB0 : BObj (w.alloc (.cells #[.pointer none, .pointer none, .pointer none, .pointer none, .pointer none, .pointer none] 79)) b (fun _ => none) (fun _ => none) := by rw [← hb]; exact (MapKept.heap_alloc w _).1
  have hst : BegAt (w.alloc (.cells #[.pointer none, .pointer none, .pointer none, .pointer none, .pointer none, .pointer none] 79)) b 0 (fun _ => 0) (fun _ => 0) (fun _ _ => 0) (fun _ => none) (fun _ => none) :=
    ⟨hB0, fun j hj => absurd hj (by omega), fun j hj => absurd hj (by omega), fun j hj => absurd hj (by omega), fun j hj => absurd hj (by omega), fun i j hi => absurd hi (by omega), fun i j hi => absurd hi (by omega)⟩
  have HST := Hid.mk' (And.intro (Keeps.new w (.cells #[.pointer none, .pointer none, .pointer none, .pointer none, .pointer none, .pointer none] 79)) (And.intro hst (show ∀ j, j < 0 → w.heap.size ≤ (fun _ : Nat => 0) j ∧ w.heap.size ≤ (fun _ : Nat => 0) j from fun j hj => absurd hj (by omega))))
  have HB := Hid.mk' hb
  clear hst hB0
  go_enter Try.func33, Try.ntmps33
  go_wp2
  clear hb
  go_loopw [3] (fun i wr => ∃ k : Nat, k ≤ 3 ∧ i = .int .i64 k ∧ ∃ ts rs ps qs, Hid (Keeps (fun _ => False) w wr ∧ BegAt wr b k ts rs (fun _ _ => 0) ps qs ∧ ∀ j, j < k → w.heap.size ≤ ts j ∧ w.heap.size ≤ rs j)) (fun i _ => 3 - (intOf i).toNat)
  case atStart => exact ⟨0, by omega, rfl, _, _, _, _, HST⟩
  case round =>
    obtain ⟨k, hk, rfl, ts, rs, ps, qs, hrel⟩ := hrel
    by_cases h1 : k < 3
    · have h1' : (k : Int) < 3 := by omega
      have hk0 : (0 : Int) ≤ k := by omega
      have hblk := hrel.out.2.1.blk
      have hNew : ∀ n, Calls Try.prog 24 #[] (wr.drewN n) fun e w' => ∃ t, e = .returned (.pointer (some ⟨t, 0, none⟩)) ∧ Hid (t = wr.heap.size ∧ Keeps (fun _ => False) wr w' ∧ TreeAt w' t (fun _ => 0)) ∧ w'.cell? ⟨b, k, none⟩ = some (.pointer (ps k)) ∧ w'.frozen? ⟨b, k, none⟩ = false := fun n => by
        refine (new_any (wr.drewN n)).mono fun e w' ⟨he, hw⟩ => ?_
        have hkk := (Keeps.drewN (fun _ => False) wr n).trans (Keeps.new (wr.drewN n) (.cells #[.pointer none, .int .i64 0] 62))
        have hT := new_tree (wr.drewN n)
        rw [← hw] at hkk hT
        have hbb := hkk.at hblk id
        exact ⟨_, he, ⟨rfl, hkk, hT⟩, (b_cell hbb k h1).1, b_frozen hbb k⟩
      have HREL := hrel
      clear hrel hblk
      go_wp2
      go_region_with ((go_at_call 24; refine (hNew _).mono ?_; rintro e w1 ⟨t, rfl, hx, x0, x1⟩))
      all_goals
        obtain ⟨ht, hk1, hT1⟩ := hx.out
        have hb1 := hk1.at HREL.out.2.1.blk id
        have hset := b_setP hb1 k h1 (some ⟨t, 0, none⟩)
        have hks := one_keeps w1 b k (.pointer (some ⟨t, 0, none⟩))
        have hT2 := hT1.past hks (BObj.no_node hb1) (tree_ne_b hT1 hb1)
        have hbl : b < w1.heap.size := heap_lt hb1
        generalize w1.setCell ⟨b, k, none⟩ (.pointer (some ⟨t, 0, none⟩)) = w2 at *
        have hNewR : ∀ n, Calls Try.prog 38 #[] (w2.drewN n) fun e w' => ∃ r, e = .returned (.pointer (some ⟨r, 0, none⟩)) ∧ Hid (r = w2.heap.size ∧ Keeps (fun _ => False) w2 w' ∧ RefAt w' r (fun _ => 0)) ∧ w'.cell? ⟨b, 3 + k, none⟩ = some (.pointer (qs k)) ∧ w'.frozen? ⟨b, 3 + k, none⟩ = false := fun n => by
          refine (ref_new (w2.drewN n)).mono fun e w' ⟨he, hw⟩ => ?_
          have hkk := (Keeps.drewN (fun _ => False) w2 n).trans (Keeps.new (w2.drewN n) (.cells (refCells (fun _ => 0)) 83))
          have hR := (MapKept.heap_alloc (w2.drewN n) (.cells (refCells (fun _ => 0)) 83)).1
          rw [← hw] at hkk hR
          have hbb : BObj w' b _ _ := hkk.at hset id
          exact ⟨_, he, ⟨rfl, hkk, hR⟩, (b_cell hbb k h1).2, b_frozen hbb (3 + k)⟩
        have H2 := Hid.mk' (And.intro ht (And.intro hk1 (And.intro hks (And.intro hset hT2))))
        clear hset hks hT2 hk1 hT1 hb1 x0 x1 hx ht
        go_wp2
        go_region_with ((go_at_call 38; refine (hNewR _).mono ?_; rintro e w3 ⟨r, rfl, hy, y0, y1⟩))
        all_goals
          obtain ⟨ht, hk1, hks, hset, hT2⟩ := H2.out
          obtain ⟨hr, hk3, hR3⟩ := hy.out
          have hb3 : BObj w3 b _ _ := hk3.at hset id
          have hset4 := b_setR hb3 k h1 (some ⟨r, 0, none⟩)
          have hks4 := one_keeps w3 b (3 + k) (.pointer (some ⟨r, 0, none⟩))
          have hT3 := hT2.keep hk3
          have hT4 := hT3.past hks4 (BObj.no_node hb3) (tree_ne_b hT3 hb3)
          have hR4 : RefAt _ r _ := hks4.at hR3 (fun e => ref_ne_b hR3 hb3 e)
          generalize w3.setCell ⟨b, 3 + k, none⟩ (.pointer (some ⟨r, 0, none⟩)) = w4 at *
          have kA4 := (((hk1.mono (Y := fun c => c = b) (fun _ _ h => h.elim)).trans hks).trans (hk3.mono (fun _ _ h => h.elim))).trans hks4
          have hput := HREL.out.2.1.put (k' := k + 1) (fun j hj e => by omega) kA4 hset4 hT4 hR4 (Nat.le_of_eq ht.symm) (by have := hk1.size; have := hks.size; omega)
          have z0 := (b_cell hset4 k h1).1
          have hpk : setq ps k (some ⟨t, 0, none⟩) k = some ⟨t, 0, none⟩ := by simp [setq]
          rw [hpk] at z0
          have efs : setT (fun (_ _ : Nat) => (0 : Int)) k (fun _ => 0) = fun _ _ => 0 := by funext j; simp [setT]
          rw [efs] at hput
          have hge : ∀ j, j < k + 1 → w.heap.size ≤ setT ts k t j ∧ w.heap.size ≤ setT rs k r j := fun j hj => by
            have h1 := HREL.out.1.size
            have h2 := hk1.size
            have h3 := hks.size
            by_cases e : j = k
            · simp only [setT, if_pos e]; omega
            · simp only [setT, if_neg e]; exact HREL.out.2.2 j (by omega)
          have HN := Hid.mk' (And.intro (keeps_new HREL.out.1 kA4 (Nat.le_of_eq HB.out)) (And.intro hput hge))
          clear ht hk1 hks hset hT2 hr hk3 hR3 hb3 hset4 hks4 hT3 hT4 hR4 kA4 hput hge y0 y1 hy hpk efs
          go_wp2
          go_roundw
          case rel => exact ⟨k + 1, by omega, by go_num, _, _, _, _, HN⟩
          case measure => simp [intOf]; omega
    · obtain rfl : k = 3 := by omega
      go_wp2
      go_ret2
      exact ⟨b, rfl, HB.out.symm, hrel.out.1, ts, rs, ps, qs, hrel.out.2⟩

end Go.Proofs.Ytndojlacdggfcab
