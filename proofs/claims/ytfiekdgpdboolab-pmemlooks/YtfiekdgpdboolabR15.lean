import Derived.Test.YtfiekdgpdboolabV5
import Derived.Test.YtfiekdgpdboolabR11
import Derived.Test.YtfiekdgpdboolabV7
namespace Go.Proofs.Ytfiekdgpdboolab
open Go.RowKit Go.Maps

/-- An operation's lists, where they lie: below B. -/
structure OpAt (w : World) (B : Nat) (n v : Int) (pB pL : Option Addr) (bs cs : List Int) : Prop where
  by_ : BytesAt w pB bs
  byb : ∀ b ∈ bs, 0 ≤ b ∧ b ≤ 255
  byn : 0 < bs.length → ∀ b o, pB = some ⟨b, o, none⟩ → b < B
  byl : bs.length ≤ 140737488351232
  il : IntsAt w pL cs
  ill : cs.length * 8 ≤ 140737488351232
  v0 : 0 ≤ v ∧ v < 18446744073709551616
  n0 : -9223372036854775808 ≤ n ∧ n ≤ 9223372036854775807

theorem TrioMoved.more {B bb : Nat} {N N' : Int} {w w' : World} (h : TrioMoved B bb N w w') (hN : N ≤ N') : TrioMoved B bb N' w w' := by
  obtain ⟨⟨dd, rr, HH, t⟩, k⟩ := h
  exact ⟨⟨dd, rr, HH, t.both, t.lo, fun i hi => (t.pair i hi).more hN, t.apart, t.hi⟩, k⟩

theorem TrioMoved.before {B bb : Nat} {N : Int} {w w1 w' : World} (k : Keeps (fun _ => False) w w1) (h : TrioMoved B bb N w1 w') : TrioMoved B bb N w w' :=
  ⟨h.1, (k.mono fun _ _ h => h.elim).trans h.2⟩

set_option maxHeartbeats 4000000 in
set_option maxRecDepth 20000 in
theorem plays_ok (w : World) (B bb : Nat) (dd rr : Nat → Nat) (HH : Nat → Nat → Prop) (N : Int) (kind D a n v : Int) (pB pL : Option Addr) (bs cs : List Int) (cB cL : Nat) (h : TrioAt w B bb dd rr HH N) (hB : B ≤ w.heap.size) (hN : 0 ≤ N) (hN1 : N ≤ 49000000) (ho : OpAt w B n v pB pL bs cs)
    (hk : kind ≠ 5 ∧ kind ≠ 6) :
    Calls Try.prog 54 #[.pointer (some ⟨bb, 0, none⟩), .agg (opCells kind D a n v pB pL bs.length cs.length cB cL)] w fun e w' => e = .returned (.bool true) ∧ TrioMoved B bb (N + 65536) w w' := by
  have hkA : Keeps (fun _ => False) w (w.alloc (.cells (opCells kind D a n v pB pL bs.length cs.length cB cL) 100)) := Keeps.of (World.grownBy_alloc w _ none) (by simp)
  obtain ⟨x0, x1, x2, x3, x4, x5, x6⟩ := op_cells (H := fun _ => False) (Keeps.refl (fun _ => False) (w.alloc (.cells (opCells kind D a n v pB pL bs.length cs.length cB cL) 100))) (by simp)
  have htA := h.kept hkA (by simp)
  have hBA : B ≤ (w.alloc (.cells (opCells kind D a n v pB pL bs.length cs.length cB cL) 100)).heap.size := Nat.le_trans hB hkA.size
  have hoB := ho.by_.kept (X := fun _ => False) hkA (by simp)
  have hoL := ho.il.kept (X := fun _ => False) hkA (by simp)
  have hpl := place_any D (w.alloc (.cells (opCells kind D a n v pB pL bs.length cs.length cB cL) 100))
  have hi := placeOf_lt D
  generalize placeOf D = i at *
  have hi0 : (0 : Int) ≤ (i : Int) := by omega
  have hi3 : (i : Int) < 3 := by omega
  obtain ⟨b1, b2⟩ := htA.cell hi
  have HKA := Hid.mk' hkA
  have HT := Hid.mk' htA
  have HBA := Hid.mk' (show B ≤ (w.alloc (.cells (opCells kind D a n v pB pL bs.length cs.length cB cL) 100)).heap.size ∧ i < 3 from ⟨hBA, hi⟩)
  have HST : Hid (∀ w2 w3, Keeps (fun _ => False) (w.alloc (.cells (opCells kind D a n v pB pL bs.length cs.length cB cL) 100)) w2 → PairMoved (HH i) (dd i) (rr i) (N + 65536) w2 w3 → TrioMoved B bb (N + 65536) w w3) := fun w2 w3 k2 hm => by
    have t2 := htA.kept k2 (by simp)
    obtain ⟨⟨HH', q1⟩, q2⟩ := t2.step hi hm (by omega) (Nat.le_trans hBA k2.size)
    exact ⟨⟨_, _, _, q1⟩, ((hkA.trans k2).mono fun _ _ h => h.elim).trans q2⟩
  have HSM : Hid (∀ w3, Keeps (fun _ => False) (w.alloc (.cells (opCells kind D a n v pB pL bs.length cs.length cB cL) 100)) w3 → TrioMoved B bb (N + 65536) w w3) := fun w3 k3 =>
    (TrioMoved.more ⟨⟨_, _, _, htA.kept k3 (by simp)⟩, (hkA.trans k3).mono fun _ _ h => h.elim⟩ (by omega))
  have hPP : ∀ wr, Keeps (fun _ => False) (w.alloc (.cells (opCells kind D a n v pB pL bs.length cs.length cB cL) 100)) wr → PairOK wr (HH i) (dd i) (rr i) N := fun wr k => (htA.pair i hi).kept k (by simp)
  by_cases h13 : 1 ≤ kind ∧ kind ≤ 3
  · have hmk : Calls Try.prog 65 #[.pointer (some ⟨bb, 0, none⟩), .agg (opCells kind D a n v pB pL bs.length cs.length cB cL)] (w.alloc (.cells (opCells kind D a n v pB pL bs.length cs.length cB cL) 100)) fun e w' => e = .returned (.bool true) ∧ TrioMoved B bb N (w.alloc (.cells (opCells kind D a n v pB pL bs.length cs.length cB cL) 100)) w' := by
      have h3 : kind = 1 ∨ kind = 2 ∨ kind = 3 := by omega
      rcases h3 with rfl | rfl | rfl
      · exact make_new _ B bb dd rr HH N D a n v pB pL bs.length cs.length cB cL htA hBA hN
      · exact make_load _ B bb dd rr HH N D a n v pB pL bs cs.length cB cL htA hBA hN hoB ho.byb ho.byl
      · exact make_again _ B bb dd rr HH N D a n v pB pL bs.length cs cB cL htA hBA hN (by omega) hoL (by have := ho.ill; unfold maxLen; omega)
    obtain ⟨k1, k2⟩ := h13
    clear h htA hoB hoL ho hPP hkA hk hBA hi
    go_enter Try.func54, Try.ntmps54
    go_wp2_with (first
      | (go_at_call 64; refine hpl.mono ?_; rintro e w' ⟨rfl, hw⟩; subst w'; clear hpl)
      | (go_at_call 65; refine hmk.mono ?_; rintro e w3 ⟨rfl, hx⟩; have HM := Hid.mk' hx; clear hmk hx))
    go_ret
    exact ⟨rfl, (TrioMoved.before HKA.out HM.out).more (by omega)⟩
  · by_cases h4 : kind = 4
    · subst h4
      have hlk := fun wr k => looks_size wr (HH i) (dd i) (rr i) N D a n v pB pL bs.length cs.length cB cL (hPP wr k)
      have HLK := Hid.mk' hlk
      clear h htA hoB hoL ho hPP hkA hk hBA hi h13 hlk
      go_enter Try.func54, Try.ntmps54
      go_upto_region 5 with (first
        | (go_at_call 64; refine hpl.mono ?_; rintro e w' ⟨rfl, hw⟩; subst w'; clear hpl))
      go_region_with (first
        | (go_at_call 66; refine (HLK.out _ (by exact ⟨rfl, rfl, rfl, Nat.le_refl _, fun _ _ _ => rfl⟩)).mono ?_; rintro e w3 ⟨rfl, hk3⟩))
      all_goals
        go_wp2
        go_ret
        exact ⟨rfl, HSM.out _ (Keeps.trans (by exact ⟨rfl, rfl, rfl, Nat.le_refl _, fun _ _ _ => rfl⟩) hk3)⟩
    · by_cases h7 : 7 ≤ kind ∧ kind ≤ 14
      · have hst : ∀ wr, Keeps (fun _ => False) (w.alloc (.cells (opCells kind D a n v pB pL bs.length cs.length cB cL) 100)) wr → Calls Try.prog 67 #[.pointer (some ⟨dd i, 0, none⟩), .pointer (some ⟨rr i, 0, none⟩), .agg (opCells kind D a n v pB pL bs.length cs.length cB cL)] wr fun e w' => e = .returned (.bool true) ∧ PairMoved (HH i) (dd i) (rr i) (N + 65536) wr w' := fun wr k => by
          by_cases h8 : kind = 8
          · subst h8
            exact steps_write2 wr (HH i) (dd i) (rr i) N D a n v pB pL bs cs.length cB cL (hPP wr k) (by omega) (hoB.kept k (by simp)) ho.byb (fun h0 b o e hh => by have := ho.byn h0 b o e; have := (htA.hi i b hi hh).1; omega) ho.byl
          · exact steps_plain wr (HH i) (dd i) (rr i) N kind D a n v pB pL bs.length cs.length cB cL (hPP wr k) (by omega) (by omega) ho.v0 ho.n0.1 ho.n0.2
        have HSTP := Hid.mk' hst
        obtain ⟨k1, k2⟩ := h7
        have k3 : ¬ kind ≤ 6 := by omega
        have k4 : ¬ kind ≤ 3 := by omega
        have k5 : 1 ≤ kind := by omega
        have k6 : 4 ≤ kind := by omega
        clear h htA hoB hoL ho hPP hkA hk hBA hi h13 hst h4
        go_enter Try.func54, Try.ntmps54
        go_upto_region 7 with (first
          | (go_at_call 64; refine hpl.mono ?_; rintro e w' ⟨rfl, hw⟩; subst w'; clear hpl))
        go_region_with (first
          | (go_at_call 67; refine (HSTP.out _ (by exact ⟨rfl, rfl, rfl, Nat.le_refl _, fun _ _ _ => rfl⟩)).mono ?_; rintro e w3 ⟨rfl, hx3⟩))
        all_goals
          go_wp2
          go_ret
          exact ⟨rfl, HST.out _ _ (by exact ⟨rfl, rfl, rfl, Nat.le_refl _, fun _ _ _ => rfl⟩) hx3⟩
      · by_cases h15 : 15 ≤ kind ∧ kind ≤ 17
        · have hst : ∀ wr, Keeps (fun _ => False) (w.alloc (.cells (opCells kind D a n v pB pL bs.length cs.length cB cL) 100)) wr → Calls Try.prog 68 #[.pointer (some ⟨dd i, 0, none⟩), .pointer (some ⟨rr i, 0, none⟩), .agg (opCells kind D a n v pB pL bs.length cs.length cB cL)] wr fun e w' => e = .returned (.bool true) ∧ Keeps (fun _ => False) wr w' := fun wr k => by
            have h3 : kind = 15 ∨ kind = 16 ∨ kind = 17 := by omega
            rcases h3 with rfl | rfl | rfl
            · exact tells_doubts wr (HH i) (dd i) (rr i) N D a n v pB pL bs.length cs.length cB cL (hPP wr k) (by omega)
            · exact tells_crash wr (HH i) (dd i) (rr i) N D a n v pB pL bs.length cs cB cL (hPP wr k) (by omega) (hoL.kept k (by simp)) ho.ill
            · exact tells_view wr (HH i) (dd i) (rr i) N D a n v pB pL bs.length cs.length cB cL (hPP wr k) (by omega)
          have HSTP := Hid.mk' hst
          obtain ⟨k1, k2⟩ := h15
          have k3 : ¬ kind ≤ 6 := by omega
          have k4 : ¬ kind ≤ 3 := by omega
          have k7 : ¬ kind ≤ 14 := by omega
          have k5 : 1 ≤ kind := by omega
          have k6 : 4 ≤ kind := by omega
          have k8 : 7 ≤ kind := by omega
          clear h htA hoB hoL ho hPP hkA hk hBA hi h13 hst h4 h7
          go_enter Try.func54, Try.ntmps54
          go_upto_region 9 with (first
            | (go_at_call 64; refine hpl.mono ?_; rintro e w' ⟨rfl, hw⟩; subst w'; clear hpl))
          go_region_with (first
            | (go_at_call 68; refine (HSTP.out _ (by exact ⟨rfl, rfl, rfl, Nat.le_refl _, fun _ _ _ => rfl⟩)).mono ?_; rintro e w3 ⟨rfl, hk3⟩))
          all_goals
            go_wp2
            go_ret
            exact ⟨rfl, HSM.out _ (Keeps.trans (by exact ⟨rfl, rfl, rfl, Nat.le_refl _, fun _ _ _ => rfl⟩) hk3)⟩
        · have hlo : kind < 1 ∨ 17 < kind := by omega
          clear h htA hoB hoL ho hPP hkA hk hBA hi h13 h4 h7 h15
          rcases hlo with hlo | hlo
          · have k1 : ¬ 1 ≤ kind := by omega
            have k2 : ¬ 4 ≤ kind := by omega
            have k3 : ¬ 7 ≤ kind := by omega
            have k4 : ¬ 15 ≤ kind := by omega
            go_enter Try.func54, Try.ntmps54
            go_wp2_with (first
              | (go_at_call 64; refine hpl.mono ?_; rintro e w' ⟨rfl, hw⟩; subst w'; clear hpl))
            go_ret
            exact ⟨rfl, HSM.out _ (Keeps.refl _ _)⟩
          · have k1 : 1 ≤ kind := by omega
            have k2 : 4 ≤ kind := by omega
            have k3 : 7 ≤ kind := by omega
            have k4 : 15 ≤ kind := by omega
            have k5 : ¬ kind ≤ 3 := by omega
            have k6 : ¬ kind ≤ 6 := by omega
            have k7 : ¬ kind ≤ 14 := by omega
            have k8 : ¬ kind ≤ 17 := by omega
            go_enter Try.func54, Try.ntmps54
            go_wp2_with (first
              | (go_at_call 64; refine hpl.mono ?_; rintro e w' ⟨rfl, hw⟩; subst w'; clear hpl))
            go_ret
            exact ⟨rfl, HSM.out _ (Keeps.refl _ _)⟩

end Go.Proofs.Ytfiekdgpdboolab
