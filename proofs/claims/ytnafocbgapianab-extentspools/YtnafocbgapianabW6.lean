import Derived.Test.YtnafocbgapianabW5
namespace Go.Proofs.Ytnafocbgapianab
open Go.RowKit

def setR (n : Nat) (S : Nat → Bool) (i : Int) : Bool := decide (0 ≤ i ∧ i < n) && !S i.toNat
def setS (n : Nat) (S : Nat → Bool) (i : Int) : Nat → Bool := if 0 ≤ i ∧ i < n then upd S i.toNat true else S
theorem bset_any (w : World) (b n : Nat) (S : Nat → Bool) (h : BmAt w b n S) (i : Int) :
    Calls Try.prog 26 #[.pointer (some ⟨b, 0, none⟩), .int .i64 i] w fun e w' => e = .returned (.bool (setR n S i)) ∧ BmAt w' b n (setS n S i) ∧ Keeps (fun k => k = b) w w' := by
  by_cases hi : 0 ≤ i ∧ i < n
  · obtain ⟨k, rfl⟩ := Int.eq_ofNat_of_zero_le hi.1
    have e1 : setR n S (k : Int) = !S k := by simp [setR, hi]
    have e2 : setS n S (k : Int) = upd S k true := by simp [setS, hi]
    rw [e1, e2]
    exact bset_in w b n S h k (by omega)
  · have e1 : setR n S i = false := by simp [setR, hi]
    have e2 : setS n S i = S := by simp [setS, hi]
    rw [e1, e2]
    exact bset_out w b n S h i hi
theorem rset_any (w : World) (e n : Nat) (v : Value) (S : Nat → Bool) (h : RbAt w e v n S) (i : Int) :
    Calls Try.prog 53 #[.pointer (some ⟨e, 0, none⟩), .int .i64 i] w fun r w' => r = .returned (.bool (setR n S i)) ∧ RbAt w' e v n (setS n S i) ∧ Keeps (fun j => v.ownBlock = some j) w w' := by
  by_cases hi : 0 ≤ i ∧ i < n
  · obtain ⟨k, rfl⟩ := Int.eq_ofNat_of_zero_le hi.1
    have e1 : setR n S (k : Int) = !S k := by simp [setR, hi]
    have e2 : setS n S (k : Int) = upd S k true := by simp [setS, hi]
    rw [e1, e2]
    exact rset_in w e n v S h k (by omega)
  · have e1 : setR n S i = false := by simp [setR, hi]
    have e2 : setS n S i = S := by simp [setS, hi]
    rw [e1, e2]
    refine (rset_out w e n v S h i hi).mono ?_
    rintro r w' ⟨rfl, rfl⟩
    exact ⟨rfl, h, Keeps.refl _ _⟩

theorem op_cells {w : World} {Q : Nat} {k A Bq N M : Int} {pp : Option Addr} {pn pc : Nat} {sq : Option Addr} {sn sc : Nat} {s0 s1 s2 s3 : Int} (h : w.heap[Q]? = some (.cells #[.int .i64 k, .int .i64 A, .int .i64 Bq, .int .i64 N, .int .i64 M, .slice pp pn pc, .slice sq sn sc, .int .i64 s0, .int .i64 s1, .int .i64 s2, .int .i64 s3] 75 (0, 0))) :
    w.cell? ⟨Q, 0, none⟩ = some (.int .i64 k) ∧ w.cell? ⟨Q, 1, none⟩ = some (.int .i64 A) ∧ w.cell? ⟨Q, 2, none⟩ = some (.int .i64 Bq) ∧ w.cell? ⟨Q, 3, none⟩ = some (.int .i64 N) ∧ w.cell? ⟨Q, 4, none⟩ = some (.int .i64 M) := by
  simp [World.cell?, h]

set_option maxHeartbeats 4000000 in
set_option maxRecDepth 20000 in
theorem marks_new {w0 : World} {B P : Nat} {st : Nat → Option Slot} {w : World} (h : MPlay w0 B P st w) (A Bq N M : Int) (pp : Option Addr) (pn pc : Nat) (sq : Option Addr) (sn sc : Nat) (s0 s1 s2 s3 : Int) :
    Calls Try.prog 34 #[.pointer (some ⟨P, 0, none⟩), .agg #[.int .i64 1, .int .i64 A, .int .i64 Bq, .int .i64 N, .int .i64 M, .slice pp pn pc, .slice sq sn sc, .int .i64 s0, .int .i64 s1, .int .i64 s2, .int .i64 s3]] w fun r w' => r = .returned (.bool true) ∧ ∃ st', MPlay w0 B P st' w' := by
  obtain ⟨a, ha, hA⟩ := and3_nat A
  obtain ⟨b, hb, hB⟩ := and3_nat Bq
  have ha4 : (a : Int) < 4 := by omega
  have ha0 : (0 : Int) ≤ (a : Int) := by omega
  have hQ := (MapKept.heap_alloc w (.cells #[.int .i64 1, .int .i64 A, .int .i64 Bq, .int .i64 N, .int .i64 M, .slice pp pn pc, .slice sq sn sc, .int .i64 s0, .int .i64 s1, .int .i64 s2, .int .i64 s3] 75)).1
  have g0 : Keeps (fun j => w.heap.size ≤ j) w (w.alloc (.cells #[.int .i64 1, .int .i64 A, .int .i64 Bq, .int .i64 N, .int .i64 M, .slice pp pn pc, .slice sq sn sc, .int .i64 s0, .int .i64 s1, .int .i64 s2, .int .i64 s3] 75)) := Keeps.of (World.grownBy_alloc w _ none) (by simp)
  have H1 := Hid.mk' (h.grown g0)
  have hPl := heap_lt h.at_
  obtain ⟨w1, hw1⟩ : ∃ w1, w1 = w.alloc (.cells #[.int .i64 1, .int .i64 A, .int .i64 Bq, .int .i64 N, .int .i64 M, .slice pp pn pc, .slice sq sn sc, .int .i64 s0, .int .i64 s1, .int .i64 s2, .int .i64 s3] 75) := ⟨_, rfl⟩
  obtain ⟨Q, hQe⟩ : ∃ Q, Q = w.heap.size := ⟨_, rfl⟩
  clear h g0
  go_enter Try.func34, Try.ntmps34
  go_wp2
  rw [← hw1, ← hQe] at hQ
  rw [← hw1] at H1
  rw [← hw1, ← hQe]
  have hs1 : w1.heap.size = Q + 1 := by rw [hw1, hQe]; simp
  obtain ⟨c0, c1, c2, c3, c4⟩ := op_cells hQ
  have hnb := fun m => newBitmap_any N (w1.drewN m)
  have HQ := Hid.mk' hQ
  have hPQl : P < Q := by omega
  have hPQ : P ≠ Q := by omega
  have hPQ2 : Q ≠ P := by omega
  have HQE := Hid.mk' hQe
  clear hw1 hQ hQe
  go_region_held3 (fun wx => wx.cell? ⟨Q, 3, none⟩ = some (.int .i64 N) ∧ wx.cell? ⟨Q, 4, none⟩ = some (.int .i64 M))
    (first | go_keep)
    (first
      | (go_at_call 24; refine (hnb _).mono ?_; clear hnb; rintro e w2 ⟨rfl, hx1, hx2⟩
         have hK2 : Keeps (fun j => w1.heap.size ≤ j) w1 w2 := (Keeps.drewN _ w1 0).trans ⟨hx2.os, hx2.tape, hx2.output, hx2.size, hx2.block⟩
         have hbm : BmAt w2 (Q + 1) (bmLen N) (fun _ => false) := by rw [← hs1]; exact hx1
         have hp2 := H1.out.grown hK2
         have p1 := hp2.cell1 a ha
         have p2 := hp2.frozen a
         obtain ⟨d0, d1, d2, d3, d4⟩ := op_cells (hK2.at HQ.out (by omega))
         have HX := Hid.mk' (And.intro hK2 (And.intro hbm hp2))
         clear hx1 hx2 hK2 hbm hp2 d0 d1 d2))
  go_wp2
  have hset1 := setCell_block (a := ⟨P, a, none⟩) (v := .pointer (some ⟨Q + 1, 0, none⟩)) HX.out.2.2.at_ rfl
  simp only at hset1
  rw [mkPlay_set1 _ _ a _ ha] at hset1
  have hkp1 := keep_set' w2 P a (.pointer (some ⟨Q + 1, 0, none⟩))
  have hbm3 := HX.out.2.1.kept hkp1 (fun e => by omega)
  have hK3 : Keeps (fun j => j = P ∨ w1.heap.size ≤ j) w1 (w2.setCell ⟨P, a, none⟩ (.pointer (some ⟨Q + 1, 0, none⟩))) := (HX.out.1.mono (fun j _ hj => Or.inr hj)).then hkp1 (fun j hj => Or.inl (Or.inl hj))
  have hQ4 := hkp1.at (HX.out.1.at HQ.out (by omega)) (fun e => by omega)
  obtain ⟨w3, hw3⟩ : ∃ w3, w3 = w2.setCell ⟨P, a, none⟩ (.pointer (some ⟨Q + 1, 0, none⟩)) := ⟨_, rfl⟩
  rw [← hw3] at hset1 hkp1 hbm3 hK3 hQ4 ⊢
  have hs3 := hkp1.size
  have hs2 := HX.out.1.size
  have HS3 := Hid.mk' (And.intro hset1 (And.intro hbm3 (And.intro hK3 hQ4)))
  obtain ⟨d0, d1, d2, d3, d4⟩ := op_cells hQ4
  have hrn := fun m => rnew_any N (w3.drewN m)
  clear hset1 hkp1 hbm3 hK3 hQ4 hw3 p1 p2
  go_region_held3 (fun wx => wx.cell? ⟨Q, 3, none⟩ = some (.int .i64 N) ∧ wx.cell? ⟨Q, 4, none⟩ = some (.int .i64 M))
    (first | go_keep)
    (first
      | (go_at_call 52; refine (hrn _).mono ?_; clear hrn; rintro r w4 ⟨e, rfl, hx0, v, hx1, hx2, hx3⟩
         have hK4 : Keeps (fun j => w3.heap.size ≤ j) w3 w4 := (Keeps.drewN _ w3 0).trans ⟨hx3.os, hx3.tape, hx3.output, hx3.size, hx3.block⟩
         have he3 : w3.heap.size ≤ e := hx0
         have hv3 : ∀ g, v.ownBlock = some g → w3.heap.size ≤ g := hx1
         have hat4 := hK4.at HS3.out.1 (by omega)
         have p1 : w4.cell? ⟨P, 4 + a, none⟩ = some (ep (st a)) := by rw [cell_of_row _ _ (4 + a) _ _ _ hat4]; simpa using mkPlay_get2 _ _ a ha
         have p2 : w4.frozen? ⟨P, 4 + a, none⟩ = false := by simp [World.frozen?, hat4]
         obtain ⟨z0, z1, z2, z3, z4⟩ := op_cells (hK4.at HS3.out.2.2.2 (by omega))
         have HX4 := Hid.mk' (And.intro hK4 (And.intro he3 (And.intro hv3 (And.intro hat4 hx2))))
         clear hx0 hx1 hx2 hx3 hK4 he3 hv3 hat4 z0 z1 z2))
  have hset5 := setCell_block (a := ⟨P, 4 + a, none⟩) (v := .pointer (some ⟨e, 0, none⟩)) HX4.out.2.2.2.1 rfl
  simp only at hset5
  rw [mkPlay_set2 _ _ a _ ha] at hset5
  have hkp5 := keep_set' w4 P (4 + a) (.pointer (some ⟨e, 0, none⟩))
  have HF : Hid (MPlay w0 B P (setSt st a ⟨bmLen N, fun _ => false, Q + 1, e, v⟩) (w4.setCell ⟨P, 4 + a, none⟩ (.pointer (some ⟨e, 0, none⟩)))) := by
    have h4 := HX4.out
    have hb4 := HS3.out.2.1.kept h4.1 (by have := heap_lt HS3.out.2.1.at_; omega)
    refine H1.out.fresh ha ⟨bmLen N, fun _ => false, Q + 1, e, v⟩ hset5 (hb4.kept hkp5 (fun e => by omega)) (h4.2.2.2.2.kept hkp5 (fun e' => by omega) (fun g hg e' => ?_)) (by show w1.heap.size ≤ Q + 1; omega) (fun g hg => by have := h4.2.2.1 g hg; omega) ?_
    · have := h4.2.2.1 g hg; omega
    · exact (HS3.out.2.2.1.then h4.1 (fun j hj => by left; right; omega)).then hkp5 (fun j hj => Or.inl (Or.inl hj))
  have cf : (w4.setCell ⟨P, 4 + a, none⟩ (.pointer (some ⟨e, 0, none⟩))).cell? ⟨P, a, none⟩ = some (.pointer (some ⟨Q + 1, 0, none⟩)) := by
    have := HF.out.cell1 a ha
    rw [setSt_same] at this
    exact this
  clear hset5 hkp5 p1 p2
  go_wp2
  go_ret
  exact ⟨rfl, _, HF.out⟩

set_option maxHeartbeats 4000000 in
set_option maxRecDepth 20000 in
theorem marks_none {w0 : World} {B P : Nat} {st : Nat → Option Slot} {w : World} (h : MPlay w0 B P st w) (A Bq N M : Int) (pp : Option Addr) (pn pc : Nat) (sq : Option Addr) (sn sc : Nat) (s0 s1 s2 s3 k : Int) (hk : (k == 1) = false) (a : Nat) (ha : a < 4) (hA : bits .and .i64 A 3 = (a : Int)) (hsa : st a = none) :
    Calls Try.prog 34 #[.pointer (some ⟨P, 0, none⟩), .agg #[.int .i64 k, .int .i64 A, .int .i64 Bq, .int .i64 N, .int .i64 M, .slice pp pn pc, .slice sq sn sc, .int .i64 s0, .int .i64 s1, .int .i64 s2, .int .i64 s3]] w fun r w' => r = .returned (.bool true) ∧ ∃ st', MPlay w0 B P st' w' := by
  obtain ⟨b, hb, hB⟩ := and3_nat Bq
  have ha4 : (a : Int) < 4 := by omega
  have ha0 : (0 : Int) ≤ (a : Int) := by omega
  have hb4 : (b : Int) < 4 := by omega
  have hb0 : (0 : Int) ≤ (b : Int) := by omega
  have hQ := (MapKept.heap_alloc w (.cells #[.int .i64 k, .int .i64 A, .int .i64 Bq, .int .i64 N, .int .i64 M, .slice pp pn pc, .slice sq sn sc, .int .i64 s0, .int .i64 s1, .int .i64 s2, .int .i64 s3] 75)).1
  have g0 : Keeps (fun j => w.heap.size ≤ j) w (w.alloc (.cells #[.int .i64 k, .int .i64 A, .int .i64 Bq, .int .i64 N, .int .i64 M, .slice pp pn pc, .slice sq sn sc, .int .i64 s0, .int .i64 s1, .int .i64 s2, .int .i64 s3] 75)) := Keeps.of (World.grownBy_alloc w _ none) (by simp)
  have H1 := Hid.mk' (h.grown g0)
  have hPl := heap_lt h.at_
  obtain ⟨w1, hw1⟩ : ∃ w1, w1 = w.alloc (.cells #[.int .i64 k, .int .i64 A, .int .i64 Bq, .int .i64 N, .int .i64 M, .slice pp pn pc, .slice sq sn sc, .int .i64 s0, .int .i64 s1, .int .i64 s2, .int .i64 s3] 75) := ⟨_, rfl⟩
  obtain ⟨Q, hQe⟩ : ∃ Q, Q = w.heap.size := ⟨_, rfl⟩
  rw [← hw1, ← hQe] at hQ
  rw [← hw1] at H1
  have hs1 : w1.heap.size = Q + 1 := by rw [hw1, hQe]; simp
  have hPQl : P < Q := by omega
  have hx := H1.out.cell1 a ha
  have hy := H1.out.cell2 a ha
  rw [hsa] at hx hy
  simp only [mp, ep] at hx hy
  have HW := Hid.mk' hw1
  have HQE := Hid.mk' hQe
  have HQ := Hid.mk' hQ
  have HSA := Hid.mk' hsa
  obtain ⟨c0, c1, c2, c3, c4⟩ := op_cells hQ
  rw [hQe] at c0 c1 c2 c3 c4
  rw [hw1] at hx hy c0 c1 c2 c3 c4
  clear h g0 hQ hsa hw1 hQe
  go_enter Try.func34, Try.ntmps34
  go_wp2
  go_ret
  exact ⟨rfl, st, by rw [← HW.out]; exact H1.out⟩

set_option maxHeartbeats 4000000 in
set_option maxRecDepth 20000 in
theorem marks_set {w0 : World} {B P : Nat} {st : Nat → Option Slot} {w : World} (h : MPlay w0 B P st w) (A Bq N M : Int) (pp : Option Addr) (pn pc : Nat) (sq : Option Addr) (sn sc : Nat) (s0 s1 s2 s3 : Int) (a : Nat) (ha : a < 4) (hA : bits .and .i64 A 3 = (a : Int)) (s : Slot) (hsa : st a = some s) :
    Calls Try.prog 34 #[.pointer (some ⟨P, 0, none⟩), .agg #[.int .i64 2, .int .i64 A, .int .i64 Bq, .int .i64 N, .int .i64 M, .slice pp pn pc, .slice sq sn sc, .int .i64 s0, .int .i64 s1, .int .i64 s2, .int .i64 s3]] w fun r w' => r = .returned (.bool true) ∧ ∃ st', MPlay w0 B P st' w' := by
  obtain ⟨b, hb, hB⟩ := and3_nat Bq
  have ha4 : (a : Int) < 4 := by omega
  have ha0 : (0 : Int) ≤ (a : Int) := by omega
  have hb4 : (b : Int) < 4 := by omega
  have hb0 : (0 : Int) ≤ (b : Int) := by omega
  have hQ := (MapKept.heap_alloc w (.cells #[.int .i64 2, .int .i64 A, .int .i64 Bq, .int .i64 N, .int .i64 M, .slice pp pn pc, .slice sq sn sc, .int .i64 s0, .int .i64 s1, .int .i64 s2, .int .i64 s3] 75)).1
  have g0 : Keeps (fun j => w.heap.size ≤ j) w (w.alloc (.cells #[.int .i64 2, .int .i64 A, .int .i64 Bq, .int .i64 N, .int .i64 M, .slice pp pn pc, .slice sq sn sc, .int .i64 s0, .int .i64 s1, .int .i64 s2, .int .i64 s3] 75)) := Keeps.of (World.grownBy_alloc w _ none) (by simp)
  have H1 := Hid.mk' (h.grown g0)
  have hPl := heap_lt h.at_
  obtain ⟨w1, hw1⟩ : ∃ w1, w1 = w.alloc (.cells #[.int .i64 2, .int .i64 A, .int .i64 Bq, .int .i64 N, .int .i64 M, .slice pp pn pc, .slice sq sn sc, .int .i64 s0, .int .i64 s1, .int .i64 s2, .int .i64 s3] 75) := ⟨_, rfl⟩
  obtain ⟨Q, hQe⟩ : ∃ Q, Q = w.heap.size := ⟨_, rfl⟩
  rw [← hw1, ← hQe] at hQ
  rw [← hw1] at H1
  have hs1 : w1.heap.size = Q + 1 := by rw [hw1, hQe]; simp
  have hPQl : P < Q := by omega
  have hx := H1.out.cell1 a ha
  have hy := H1.out.cell2 a ha
  rw [hsa] at hx hy
  simp only [mp, ep] at hx hy
  have HW := Hid.mk' hw1
  have HQE := Hid.mk' hQe
  have HQ := Hid.mk' hQ
  have HSA := Hid.mk' hsa
  obtain ⟨c0, c1, c2, c3, c4⟩ := op_cells hQ
  rw [hQe] at c0 c1 c2 c3 c4
  rw [hw1] at hx hy c0 c1 c2 c3 c4
  clear h g0 hQ hsa hw1 hQe
  go_enter Try.func34, Try.ntmps34
  go_wp2
  rw [← HW.out] at hx hy c0 c1 c2 c3 c4
  rw [← HQE.out] at c0 c1 c2 c3 c4
  rw [← HW.out, ← HQE.out]
  obtain ⟨b1, r1⟩ := H1.out.two a s ha HSA.out
  have HT := Hid.mk' (And.intro b1 r1)
  obtain ⟨sn_, sS, sd, se, sv⟩ := s
  simp only at HT b1 r1
  have hb1 := fun m => bset_any (w1.drewN m) sd sn_ sS (b1.kept (Keeps.drewN (fun _ => False) _ m) (by simp)) N
  clear b1 r1 c0 c1 c2 hx hy
  go_region_held3 (fun wx => wx.cell? ⟨Q, 3, none⟩ = some (.int .i64 N) ∧ wx.cell? ⟨Q, 4, none⟩ = some (.int .i64 M))
    (first | go_keep)
    (first
      | (go_at_call 26; refine (hb1 _).mono ?_; clear hb1; rintro r w2 ⟨rfl, hx1, hx2⟩
         have hK2 : Keeps (fun j => j = sd) w1 w2 := (Keeps.drewN _ w1 0).trans ⟨hx2.os, hx2.tape, hx2.output, hx2.size, hx2.block⟩
         have hr2 := HT.out.2.kept hK2 (fun e => ne_type HT.out.2.at_ HT.out.1.at_ (by decide) e) (fun g hg e => by obtain ⟨cur, hc⟩ := own_cells HT.out.2.row hg; exact ne_type hc HT.out.1.at_ (by decide) e)
         have hrs := rset_any w2 se sn_ sv sS hr2 N
         obtain ⟨z0, z1, z2, z3, z4⟩ := op_cells (hK2.at HQ.out (fun e => ne_type HQ.out HT.out.1.at_ (by decide) e))
         have HX := Hid.mk' (And.intro hK2 (And.intro hx1 hr2))
         clear hx1 hx2 hK2 hr2 z0 z1 z2)
      | (go_at_call 53; refine hrs.mono ?_; clear hrs; rintro r w3 ⟨rfl, hx1, hx2⟩
         have hK3 : Keeps (fun j => sv.ownBlock = some j) w2 w3 := hx2
         have hq3 := hK3.at (HX.out.1.at HQ.out (fun e => ne_type HQ.out HT.out.1.at_ (by decide) e)) (fun e => by obtain ⟨cur, hc⟩ := own_cells HX.out.2.2.row e; exact ne_type (HX.out.1.at HQ.out (fun e => ne_type HQ.out HT.out.1.at_ (by decide) e)) hc (by decide) rfl)
         obtain ⟨z0, z1, z2, z3, z4⟩ := op_cells hq3
         have hb3 := HX.out.2.1.kept hK3 (fun e => by obtain ⟨cur, hc⟩ := own_cells HX.out.2.2.row e; exact ne_type HX.out.2.1.at_ hc (by decide) rfl)
         have HF := Hid.mk' (H1.out.turn ha HSA.out _ hb3 hx1 ((HX.out.1.mono (fun j _ hj => Or.inl (Or.inl hj))).then hK3 (fun j hj => Or.inl (Or.inl (Or.inr hj)))))
         clear hx1 hx2 hK3 hq3 hb3 z0 z1 z2))
  go_wp2
  go_ret
  exact ⟨ret_bool (by simp), _, HF.out⟩

set_option maxHeartbeats 4000000 in
set_option maxRecDepth 20000 in
theorem marks_has {w0 : World} {B P : Nat} {st : Nat → Option Slot} {w : World} (h : MPlay w0 B P st w) (A Bq N M : Int) (pp : Option Addr) (pn pc : Nat) (sq : Option Addr) (sn sc : Nat) (s0 s1 s2 s3 : Int) (a : Nat) (ha : a < 4) (hA : bits .and .i64 A 3 = (a : Int)) (s : Slot) (hsa : st a = some s) :
    Calls Try.prog 34 #[.pointer (some ⟨P, 0, none⟩), .agg #[.int .i64 3, .int .i64 A, .int .i64 Bq, .int .i64 N, .int .i64 M, .slice pp pn pc, .slice sq sn sc, .int .i64 s0, .int .i64 s1, .int .i64 s2, .int .i64 s3]] w fun r w' => r = .returned (.bool true) ∧ ∃ st', MPlay w0 B P st' w' := by
  obtain ⟨b, hb, hB⟩ := and3_nat Bq
  have ha4 : (a : Int) < 4 := by omega
  have ha0 : (0 : Int) ≤ (a : Int) := by omega
  have hb4 : (b : Int) < 4 := by omega
  have hb0 : (0 : Int) ≤ (b : Int) := by omega
  have hQ := (MapKept.heap_alloc w (.cells #[.int .i64 3, .int .i64 A, .int .i64 Bq, .int .i64 N, .int .i64 M, .slice pp pn pc, .slice sq sn sc, .int .i64 s0, .int .i64 s1, .int .i64 s2, .int .i64 s3] 75)).1
  have g0 : Keeps (fun j => w.heap.size ≤ j) w (w.alloc (.cells #[.int .i64 3, .int .i64 A, .int .i64 Bq, .int .i64 N, .int .i64 M, .slice pp pn pc, .slice sq sn sc, .int .i64 s0, .int .i64 s1, .int .i64 s2, .int .i64 s3] 75)) := Keeps.of (World.grownBy_alloc w _ none) (by simp)
  have H1 := Hid.mk' (h.grown g0)
  have hPl := heap_lt h.at_
  obtain ⟨w1, hw1⟩ : ∃ w1, w1 = w.alloc (.cells #[.int .i64 3, .int .i64 A, .int .i64 Bq, .int .i64 N, .int .i64 M, .slice pp pn pc, .slice sq sn sc, .int .i64 s0, .int .i64 s1, .int .i64 s2, .int .i64 s3] 75) := ⟨_, rfl⟩
  obtain ⟨Q, hQe⟩ : ∃ Q, Q = w.heap.size := ⟨_, rfl⟩
  rw [← hw1, ← hQe] at hQ
  rw [← hw1] at H1
  have hs1 : w1.heap.size = Q + 1 := by rw [hw1, hQe]; simp
  have hPQl : P < Q := by omega
  have hx := H1.out.cell1 a ha
  have hy := H1.out.cell2 a ha
  rw [hsa] at hx hy
  simp only [mp, ep] at hx hy
  have HW := Hid.mk' hw1
  have HQE := Hid.mk' hQe
  have HQ := Hid.mk' hQ
  have HSA := Hid.mk' hsa
  obtain ⟨c0, c1, c2, c3, c4⟩ := op_cells hQ
  rw [hQe] at c0 c1 c2 c3 c4
  rw [hw1] at hx hy c0 c1 c2 c3 c4
  clear h g0 hQ hsa hw1 hQe
  go_enter Try.func34, Try.ntmps34
  go_wp2
  rw [← HW.out] at hx hy c0 c1 c2 c3 c4
  rw [← HQE.out] at c0 c1 c2 c3 c4
  rw [← HW.out, ← HQE.out]
  obtain ⟨b1, r1⟩ := H1.out.two a s ha HSA.out
  have HT := Hid.mk' (And.intro b1 r1)
  obtain ⟨sn_, sS, sd, se, sv⟩ := s
  simp only at HT b1 r1
  have hb1 := fun m => bhas_any (w1.drewN m) sd sn_ sS (b1.kept (Keeps.drewN (fun _ => False) _ m) (by simp)) N
  have hrs := fun m => rhas_any (w1.drewN m) se sn_ sv sS (r1.drewN m) N
  clear b1 r1 c0 c1 c2 hx hy
  go_region_held3 (fun wx => wx.cell? ⟨Q, 3, none⟩ = some (.int .i64 N) ∧ wx.cell? ⟨Q, 4, none⟩ = some (.int .i64 M))
    (first | go_keep)
    (first
      | (go_at_call 28; refine (hb1 _).mono ?_; clear hb1; rintro r w' ⟨rfl, m2, hw'⟩; subst w')
      | (go_at_call 54; refine (hrs _).mono ?_; clear hrs; rintro r w' ⟨rfl, hw'⟩; subst w'))
  go_wp2
  go_ret
  exact ⟨ret_bool (by simp), _, H1.out.drewN _⟩

set_option maxHeartbeats 4000000 in
set_option maxRecDepth 20000 in
theorem marks_count {w0 : World} {B P : Nat} {st : Nat → Option Slot} {w : World} (h : MPlay w0 B P st w) (A Bq N M : Int) (pp : Option Addr) (pn pc : Nat) (sq : Option Addr) (sn sc : Nat) (s0 s1 s2 s3 : Int) (a : Nat) (ha : a < 4) (hA : bits .and .i64 A 3 = (a : Int)) (s : Slot) (hsa : st a = some s) :
    Calls Try.prog 34 #[.pointer (some ⟨P, 0, none⟩), .agg #[.int .i64 4, .int .i64 A, .int .i64 Bq, .int .i64 N, .int .i64 M, .slice pp pn pc, .slice sq sn sc, .int .i64 s0, .int .i64 s1, .int .i64 s2, .int .i64 s3]] w fun r w' => r = .returned (.bool true) ∧ ∃ st', MPlay w0 B P st' w' := by
  obtain ⟨b, hb, hB⟩ := and3_nat Bq
  have ha4 : (a : Int) < 4 := by omega
  have ha0 : (0 : Int) ≤ (a : Int) := by omega
  have hb4 : (b : Int) < 4 := by omega
  have hb0 : (0 : Int) ≤ (b : Int) := by omega
  have hQ := (MapKept.heap_alloc w (.cells #[.int .i64 4, .int .i64 A, .int .i64 Bq, .int .i64 N, .int .i64 M, .slice pp pn pc, .slice sq sn sc, .int .i64 s0, .int .i64 s1, .int .i64 s2, .int .i64 s3] 75)).1
  have g0 : Keeps (fun j => w.heap.size ≤ j) w (w.alloc (.cells #[.int .i64 4, .int .i64 A, .int .i64 Bq, .int .i64 N, .int .i64 M, .slice pp pn pc, .slice sq sn sc, .int .i64 s0, .int .i64 s1, .int .i64 s2, .int .i64 s3] 75)) := Keeps.of (World.grownBy_alloc w _ none) (by simp)
  have H1 := Hid.mk' (h.grown g0)
  have hPl := heap_lt h.at_
  obtain ⟨w1, hw1⟩ : ∃ w1, w1 = w.alloc (.cells #[.int .i64 4, .int .i64 A, .int .i64 Bq, .int .i64 N, .int .i64 M, .slice pp pn pc, .slice sq sn sc, .int .i64 s0, .int .i64 s1, .int .i64 s2, .int .i64 s3] 75) := ⟨_, rfl⟩
  obtain ⟨Q, hQe⟩ : ∃ Q, Q = w.heap.size := ⟨_, rfl⟩
  rw [← hw1, ← hQe] at hQ
  rw [← hw1] at H1
  have hs1 : w1.heap.size = Q + 1 := by rw [hw1, hQe]; simp
  have hPQl : P < Q := by omega
  have hx := H1.out.cell1 a ha
  have hy := H1.out.cell2 a ha
  rw [hsa] at hx hy
  simp only [mp, ep] at hx hy
  have HW := Hid.mk' hw1
  have HQE := Hid.mk' hQe
  have HQ := Hid.mk' hQ
  have HSA := Hid.mk' hsa
  obtain ⟨c0, c1, c2, c3, c4⟩ := op_cells hQ
  rw [hQe] at c0 c1 c2 c3 c4
  rw [hw1] at hx hy c0 c1 c2 c3 c4
  clear h g0 hQ hsa hw1 hQe
  go_enter Try.func34, Try.ntmps34
  have b1 := (H1.out.two a s ha HSA.out).1
  have r1 := (H1.out.two a s ha HSA.out).2
  rw [HW.out] at b1 r1
  have hb1 := bcount_any _ s.d s.n s.S b1
  have hrs := rcount_any _ s.e s.n s.v s.S r1
  clear b1 r1
  go_wp2_with (first
    | (go_at_call 27; refine hb1.mono ?_; clear hb1; rintro r w' ⟨rfl, hw'⟩; subst w')
    | (go_at_call 55; refine hrs.mono ?_; clear hrs; rintro r w' ⟨rfl, hw'⟩; subst w'))
  go_ret
  exact ⟨ret_bool (by simp), _, by rw [← HW.out]; exact H1.out⟩

set_option maxHeartbeats 4000000 in
set_option maxRecDepth 20000 in
theorem marks_holes {w0 : World} {B P : Nat} {st : Nat → Option Slot} {w : World} (h : MPlay w0 B P st w) (A Bq N M : Int) (pp : Option Addr) (pn pc : Nat) (sq : Option Addr) (sn sc : Nat) (s0 s1 s2 s3 : Int) (a : Nat) (ha : a < 4) (hA : bits .and .i64 A 3 = (a : Int)) (s : Slot) (hsa : st a = some s) :
    Calls Try.prog 34 #[.pointer (some ⟨P, 0, none⟩), .agg #[.int .i64 6, .int .i64 A, .int .i64 Bq, .int .i64 N, .int .i64 M, .slice pp pn pc, .slice sq sn sc, .int .i64 s0, .int .i64 s1, .int .i64 s2, .int .i64 s3]] w fun r w' => r = .returned (.bool true) ∧ ∃ st', MPlay w0 B P st' w' := by
  obtain ⟨b, hb, hB⟩ := and3_nat Bq
  have ha4 : (a : Int) < 4 := by omega
  have ha0 : (0 : Int) ≤ (a : Int) := by omega
  have hb4 : (b : Int) < 4 := by omega
  have hb0 : (0 : Int) ≤ (b : Int) := by omega
  have hQ := (MapKept.heap_alloc w (.cells #[.int .i64 6, .int .i64 A, .int .i64 Bq, .int .i64 N, .int .i64 M, .slice pp pn pc, .slice sq sn sc, .int .i64 s0, .int .i64 s1, .int .i64 s2, .int .i64 s3] 75)).1
  have g0 : Keeps (fun j => w.heap.size ≤ j) w (w.alloc (.cells #[.int .i64 6, .int .i64 A, .int .i64 Bq, .int .i64 N, .int .i64 M, .slice pp pn pc, .slice sq sn sc, .int .i64 s0, .int .i64 s1, .int .i64 s2, .int .i64 s3] 75)) := Keeps.of (World.grownBy_alloc w _ none) (by simp)
  have H1 := Hid.mk' (h.grown g0)
  have hPl := heap_lt h.at_
  obtain ⟨w1, hw1⟩ : ∃ w1, w1 = w.alloc (.cells #[.int .i64 6, .int .i64 A, .int .i64 Bq, .int .i64 N, .int .i64 M, .slice pp pn pc, .slice sq sn sc, .int .i64 s0, .int .i64 s1, .int .i64 s2, .int .i64 s3] 75) := ⟨_, rfl⟩
  obtain ⟨Q, hQe⟩ : ∃ Q, Q = w.heap.size := ⟨_, rfl⟩
  rw [← hw1, ← hQe] at hQ
  rw [← hw1] at H1
  have hs1 : w1.heap.size = Q + 1 := by rw [hw1, hQe]; simp
  have hPQl : P < Q := by omega
  have hx := H1.out.cell1 a ha
  have hy := H1.out.cell2 a ha
  rw [hsa] at hx hy
  simp only [mp, ep] at hx hy
  have HW := Hid.mk' hw1
  have HQE := Hid.mk' hQe
  have HQ := Hid.mk' hQ
  have HSA := Hid.mk' hsa
  obtain ⟨c0, c1, c2, c3, c4⟩ := op_cells hQ
  rw [hQe] at c0 c1 c2 c3 c4
  rw [hw1] at hx hy c0 c1 c2 c3 c4
  clear h g0 hQ hsa hw1 hQe
  go_enter Try.func34, Try.ntmps34
  go_wp2
  rw [← HW.out] at hx hy c0 c1 c2 c3 c4
  rw [← HQE.out] at c0 c1 c2 c3 c4
  rw [← HW.out, ← HQE.out]
  obtain ⟨b1, r1⟩ := H1.out.two a s ha HSA.out
  have HT := Hid.mk' (And.intro b1 r1)
  obtain ⟨sn_, sS, sd, se, sv⟩ := s
  simp only at HT b1 r1
  have hb1 := fun m => bholes_any (w1.drewN m) sd sn_ sS (b1.kept (Keeps.drewN (fun _ => False) _ m) (by simp)) N M
  have hbd := sp_bd (fun j => !sS j) (clamp sn_ N) (clamp sn_ M - clamp sn_ N)
  have hcl := clamp_le sn_ M
  have hle := b1.le
  obtain ⟨L, hL⟩ : ∃ L, L = sp (fun j => !sS j) (clamp sn_ N) (clamp sn_ M - clamp sn_ N) := ⟨_, rfl⟩
  rw [← hL] at hb1 hbd
  have HL := Hid.mk' hL
  have hLl : L.length ≤ 1024 := by omega
  clear b1 r1 c0 c1 c2 hx hy hL hbd
  go_region_held3 (fun wx => wx.cell? ⟨Q, 3, none⟩ = some (.int .i64 N) ∧ wx.cell? ⟨Q, 4, none⟩ = some (.int .i64 M))
    (first | go_keep)
    (first
      | (go_at_call 31; refine (hb1 _).mono ?_; clear hb1; rintro r w2 ⟨v2, rfl, hx1, hx2⟩
         have hK2 : Keeps (fun j => w1.heap.size ≤ j) w1 w2 := (Keeps.drewN _ w1 0).trans ⟨hx2.os, hx2.tape, hx2.output, hx2.size, hx2.block⟩
         obtain ⟨p2, cap2, hv2, hin2, _⟩ := hx1.toIn
         subst v2
         have hp2 := H1.out.grown hK2
         have hrs := rholes_any w2 se sn_ sv sS (hp2.two a _ ha HSA.out).2 N M
         rw [← HL.out] at hrs
         obtain ⟨z0, z1, z2, z3, z4⟩ := op_cells (hK2.at HQ.out (by omega))
         have HX := Hid.mk' (And.intro hK2 (And.intro hin2 hp2))
         have hs2 := hK2.size
         clear hx1 hx2 hK2 hin2 hp2 z0 z1 z2)
      | (go_at_call 57; refine hrs.mono ?_; clear hrs; rintro r w3 ⟨v3, rfl, hx1, hx2⟩
         have hK3 : Keeps (fun j => w2.heap.size ≤ j) w2 w3 := hx2
         obtain ⟨p3, cap3, hv3, hin3, _⟩ := hx1.toIn
         subst v3
         have hsm := sameSpans_yes w3 p2 p3 cap2 cap3 L (HX.out.2.1.grown hK3 (fun _ hb => hb)) hin3 (by omega)
         obtain ⟨z0, z1, z2, z3, z4⟩ := op_cells (hK3.at (HX.out.1.at HQ.out (by omega)) (by omega))
         have HF := Hid.mk' (HX.out.2.2.grown hK3)
         clear hx1 hx2 hK3 hin3 z0 z1 z2)
      | (go_at_call 18; refine hsm.mono ?_; clear hsm; rintro r w' ⟨rfl, m4, hw'⟩; subst w'))
  go_wp2
  go_ret
  exact ⟨rfl, _, HF.out.drewN _⟩

set_option maxHeartbeats 4000000 in
set_option maxRecDepth 20000 in
theorem marks_merge_nil {w0 : World} {B P : Nat} {st : Nat → Option Slot} {w : World} (h : MPlay w0 B P st w) (A Bq N M : Int) (pp : Option Addr) (pn pc : Nat) (sq : Option Addr) (sn sc : Nat) (s0 s1 s2 s3 : Int) (a : Nat) (ha : a < 4) (hA : bits .and .i64 A 3 = (a : Int)) (s : Slot) (hsa : st a = some s) (b : Nat) (hb : b < 4) (hB : bits .and .i64 Bq 3 = (b : Int)) (hsb : st b = none) :
    Calls Try.prog 34 #[.pointer (some ⟨P, 0, none⟩), .agg #[.int .i64 5, .int .i64 A, .int .i64 Bq, .int .i64 N, .int .i64 M, .slice pp pn pc, .slice sq sn sc, .int .i64 s0, .int .i64 s1, .int .i64 s2, .int .i64 s3]] w fun r w' => r = .returned (.bool true) ∧ ∃ st', MPlay w0 B P st' w' := by
  have ha4 : (a : Int) < 4 := by omega
  have ha0 : (0 : Int) ≤ (a : Int) := by omega
  have hb4 : (b : Int) < 4 := by omega
  have hb0 : (0 : Int) ≤ (b : Int) := by omega
  have hQ := (MapKept.heap_alloc w (.cells #[.int .i64 5, .int .i64 A, .int .i64 Bq, .int .i64 N, .int .i64 M, .slice pp pn pc, .slice sq sn sc, .int .i64 s0, .int .i64 s1, .int .i64 s2, .int .i64 s3] 75)).1
  have g0 : Keeps (fun j => w.heap.size ≤ j) w (w.alloc (.cells #[.int .i64 5, .int .i64 A, .int .i64 Bq, .int .i64 N, .int .i64 M, .slice pp pn pc, .slice sq sn sc, .int .i64 s0, .int .i64 s1, .int .i64 s2, .int .i64 s3] 75)) := Keeps.of (World.grownBy_alloc w _ none) (by simp)
  have H1 := Hid.mk' (h.grown g0)
  have hPl := heap_lt h.at_
  obtain ⟨w1, hw1⟩ : ∃ w1, w1 = w.alloc (.cells #[.int .i64 5, .int .i64 A, .int .i64 Bq, .int .i64 N, .int .i64 M, .slice pp pn pc, .slice sq sn sc, .int .i64 s0, .int .i64 s1, .int .i64 s2, .int .i64 s3] 75) := ⟨_, rfl⟩
  obtain ⟨Q, hQe⟩ : ∃ Q, Q = w.heap.size := ⟨_, rfl⟩
  rw [← hw1, ← hQe] at hQ
  rw [← hw1] at H1
  have hs1 : w1.heap.size = Q + 1 := by rw [hw1, hQe]; simp
  have hPQl : P < Q := by omega
  have hx := H1.out.cell1 a ha
  have hy := H1.out.cell2 a ha
  rw [hsa] at hx hy
  simp only [mp, ep] at hx hy
  have hxb := H1.out.cell1 b hb
  have hyb := H1.out.cell2 b hb
  rw [hsb] at hxb hyb
  simp only [mp, ep] at hxb hyb
  have HW := Hid.mk' hw1
  have HQE := Hid.mk' hQe
  have HQ := Hid.mk' hQ
  have HSA := Hid.mk' hsa
  obtain ⟨c0, c1, c2, c3, c4⟩ := op_cells hQ
  rw [hQe] at c0 c1 c2 c3 c4
  rw [hw1] at hx hy c0 c1 c2 c3 c4
  clear h g0 hQ hsa hsb hw1 hQe
  go_enter Try.func34, Try.ntmps34
  go_wp2
  rw [← HW.out] at hx hy c0 c1 c2 c3 c4
  rw [← HQE.out] at c0 c1 c2 c3 c4
  rw [← HW.out, ← HQE.out]
  obtain ⟨b1, r1⟩ := H1.out.two a s ha HSA.out
  have HT := Hid.mk' (And.intro b1 r1)
  obtain ⟨sn_, sS, sd, se, sv⟩ := s
  simp only at HT b1 r1
  have hb1 := fun m => merge_nil (w1.drewN m) sd
  have hrs := fun m => rmerge_nil (w1.drewN m) se
  clear b1 r1 c0 c1 c2 hx hy
  go_region_held3 (fun wx => wx.cell? ⟨P, b, none⟩ = some (.pointer none) ∧ wx.cell? ⟨P, 4 + b, none⟩ = some (.pointer none))
    (first | go_keep)
    (first
      | (go_at_call 29; refine (hb1 _).mono ?_; clear hb1; rintro r w' ⟨rfl, hw'⟩; subst w')
      | (go_at_call 56; refine (hrs _).mono ?_; clear hrs; rintro r w' ⟨rfl, hw'⟩; subst w'))
  go_wp2
  go_ret
  exact ⟨ret_bool (by simp), _, H1.out.drewN _⟩

set_option maxHeartbeats 4000000 in
set_option maxRecDepth 20000 in
theorem marks_merge_some {w0 : World} {B P : Nat} {st : Nat → Option Slot} {w : World} (h : MPlay w0 B P st w) (A Bq N M : Int) (pp : Option Addr) (pn pc : Nat) (sq : Option Addr) (sn sc : Nat) (s0 s1 s2 s3 : Int) (a : Nat) (ha : a < 4) (hA : bits .and .i64 A 3 = (a : Int)) (s : Slot) (hsa : st a = some s) (b : Nat) (hb : b < 4) (hB : bits .and .i64 Bq 3 = (b : Int)) (t : Slot) (hsb : st b = some t) :
    Calls Try.prog 34 #[.pointer (some ⟨P, 0, none⟩), .agg #[.int .i64 5, .int .i64 A, .int .i64 Bq, .int .i64 N, .int .i64 M, .slice pp pn pc, .slice sq sn sc, .int .i64 s0, .int .i64 s1, .int .i64 s2, .int .i64 s3]] w fun r w' => r = .returned (.bool true) ∧ ∃ st', MPlay w0 B P st' w' := by
  have ha4 : (a : Int) < 4 := by omega
  have ha0 : (0 : Int) ≤ (a : Int) := by omega
  have hb4 : (b : Int) < 4 := by omega
  have hb0 : (0 : Int) ≤ (b : Int) := by omega
  have hQ := (MapKept.heap_alloc w (.cells #[.int .i64 5, .int .i64 A, .int .i64 Bq, .int .i64 N, .int .i64 M, .slice pp pn pc, .slice sq sn sc, .int .i64 s0, .int .i64 s1, .int .i64 s2, .int .i64 s3] 75)).1
  have g0 : Keeps (fun j => w.heap.size ≤ j) w (w.alloc (.cells #[.int .i64 5, .int .i64 A, .int .i64 Bq, .int .i64 N, .int .i64 M, .slice pp pn pc, .slice sq sn sc, .int .i64 s0, .int .i64 s1, .int .i64 s2, .int .i64 s3] 75)) := Keeps.of (World.grownBy_alloc w _ none) (by simp)
  have H1 := Hid.mk' (h.grown g0)
  have hPl := heap_lt h.at_
  obtain ⟨w1, hw1⟩ : ∃ w1, w1 = w.alloc (.cells #[.int .i64 5, .int .i64 A, .int .i64 Bq, .int .i64 N, .int .i64 M, .slice pp pn pc, .slice sq sn sc, .int .i64 s0, .int .i64 s1, .int .i64 s2, .int .i64 s3] 75) := ⟨_, rfl⟩
  obtain ⟨Q, hQe⟩ : ∃ Q, Q = w.heap.size := ⟨_, rfl⟩
  rw [← hw1, ← hQe] at hQ
  rw [← hw1] at H1
  have hs1 : w1.heap.size = Q + 1 := by rw [hw1, hQe]; simp
  have hPQl : P < Q := by omega
  have hx := H1.out.cell1 a ha
  have hy := H1.out.cell2 a ha
  rw [hsa] at hx hy
  simp only [mp, ep] at hx hy
  have hxb := H1.out.cell1 b hb
  have hyb := H1.out.cell2 b hb
  rw [hsb] at hxb hyb
  simp only [mp, ep] at hxb hyb
  have HSB := Hid.mk' hsb
  have HW := Hid.mk' hw1
  have HQE := Hid.mk' hQe
  have HQ := Hid.mk' hQ
  have HSA := Hid.mk' hsa
  obtain ⟨c0, c1, c2, c3, c4⟩ := op_cells hQ
  rw [hQe] at c0 c1 c2 c3 c4
  rw [hw1] at hx hy c0 c1 c2 c3 c4
  clear h g0 hQ hsa hsb hw1 hQe
  go_enter Try.func34, Try.ntmps34
  go_wp2
  rw [← HW.out] at hx hy c0 c1 c2 c3 c4
  rw [← HQE.out] at c0 c1 c2 c3 c4
  rw [← HW.out, ← HQE.out]
  obtain ⟨b1, r1⟩ := H1.out.two a s ha HSA.out
  have HT := Hid.mk' (And.intro b1 r1)
  obtain ⟨sn_, sS, sd, se, sv⟩ := s
  simp only at HT b1 r1
  obtain ⟨b2, r2⟩ := H1.out.two b t hb HSB.out
  have HU := Hid.mk' (And.intro b2 r2)
  obtain ⟨tn, tS, td, te, tv⟩ := t
  simp only at HU b2 r2 hxb hyb
  have hcase : (a = b ∧ sn_ = tn ∧ sS = tS ∧ sd = td ∧ se = te ∧ sv = tv) ∨ (sd ≠ td ∧ (∀ g, sv.ownBlock = some g → tv.ownBlock ≠ some g)) := by
    by_cases hab : a = b
    · left
      have h1 := HSA.out
      rw [hab, HSB.out] at h1
      cases h1
      exact ⟨hab, rfl, rfl, rfl, rfl, rfl⟩
    · right
      exact H1.out.inj a b _ _ ha hb hab HSA.out HSB.out
  have HCA := Hid.mk' hcase
  have hb1 := fun m => merge_gen (w1.drewN m) sd td sn_ tn sS tS (b1.kept (Keeps.drewN (fun _ => False) _ m) (by simp)) (fun wr k h1 h2 => by
    rcases HCA.out with ⟨_, e1, e2, e3, _⟩ | hne
    · subst e1 e2 e3
      rw [uni_self] at h1
      exact h1
    · exact (HU.out.1.kept (Keeps.drewN (fun _ => False) w1 m) (by simp)).kept h2 (fun e => hne.1 e.symm))
  clear b1 r1 b2 r2 c0 c1 c2 hx hy hcase
  go_region_held3 (fun wx => wx.cell? ⟨P, b, none⟩ = some (.pointer (some ⟨td, 0, none⟩)) ∧ wx.cell? ⟨P, 4 + b, none⟩ = some (.pointer (some ⟨te, 0, none⟩)))
    (first | go_keep)
    (first
      | (go_at_call 29; refine (hb1 _).mono ?_; clear hb1; rintro r w2 ⟨rfl, hx1, hx2⟩
         have hK2 : Keeps (fun j => j = sd) w1 w2 := (Keeps.drewN _ w1 0).trans ⟨hx2.os, hx2.tape, hx2.output, hx2.size, hx2.block⟩
         have hr2 := HT.out.2.kept hK2 (fun e => ne_type HT.out.2.at_ HT.out.1.at_ (by decide) e) (fun g hg e => by obtain ⟨cur, hc⟩ := own_cells HT.out.2.row hg; exact ne_type hc HT.out.1.at_ (by decide) e)
         have hu2 := HU.out.2.kept hK2 (fun e => ne_type HU.out.2.at_ HT.out.1.at_ (by decide) e) (fun g hg e => by obtain ⟨cur, hc⟩ := own_cells HU.out.2.row hg; exact ne_type hc HT.out.1.at_ (by decide) e)
         have hP2 := hK2.at H1.out.at_ (fun e => ne_type H1.out.at_ HT.out.1.at_ (by decide) e)
         have y1 : w2.cell? ⟨P, b, none⟩ = some (.pointer (some ⟨td, 0, none⟩)) := hK2.cell hxb (fun e => ne_type H1.out.at_ HT.out.1.at_ (by decide) e)
         have y2 : w2.cell? ⟨P, 4 + b, none⟩ = some (.pointer (some ⟨te, 0, none⟩)) := hK2.cell hyb (fun e => ne_type H1.out.at_ HT.out.1.at_ (by decide) e)
         have hrs := rmerge_gen w2 se sn_ sv sS hr2 te tn tv tS HU.out.1.sup (fun wr k h1 h2 => by
           rcases HCA.out with ⟨_, e1, e2, _, e4, e5⟩ | hne
           · subst e1 e2 e4 e5
             rw [und_self] at h1
             exact h1
           · refine hu2.kept h2 (fun e => ?_) (fun g hg e => hne.2 g e hg)
             obtain ⟨cur, hc⟩ := own_cells hr2.row e
             exact ne_type hu2.at_ hc (by decide) rfl)
         have HX := Hid.mk' (And.intro hK2 (And.intro hx1 (And.intro hr2 hP2)))
         clear hx1 hx2 hK2 hr2 hu2 hP2)
      | (go_at_call 56; refine hrs.mono ?_; clear hrs; rintro r w3 ⟨rfl, hx1, hx2⟩
         have hnP : ∀ g, sv.ownBlock = some g → g ≠ P := fun g hg => by
           obtain ⟨cur, hc⟩ := own_cells HX.out.2.2.1.row hg
           exact ne_type hc HX.out.2.2.2 (by decide)
         have y3 : w3.cell? ⟨P, b, none⟩ = some (.pointer (some ⟨td, 0, none⟩)) := hx2.cell y1 (fun e => hnP P e rfl)
         have y4 : w3.cell? ⟨P, 4 + b, none⟩ = some (.pointer (some ⟨te, 0, none⟩)) := hx2.cell y2 (fun e => hnP P e rfl)
         have hb3 := HX.out.2.1.kept hx2 (fun e => by obtain ⟨cur, hc⟩ := own_cells HX.out.2.2.1.row e; exact ne_type HX.out.2.1.at_ hc (by decide) rfl)
         have HF := Hid.mk' (H1.out.turn ha HSA.out _ hb3 hx1 ((HX.out.1.mono (fun j _ hj => Or.inl (Or.inl hj))).then hx2 (fun j hj => Or.inl (Or.inl (Or.inr hj)))))
         clear hx1 hx2 hnP hb3))
  go_wp2
  go_ret
  exact ⟨ret_bool (by simp), _, HF.out⟩

/-- A step of bitmaps. -/
theorem marks_any {w0 : World} {B P : Nat} {st : Nat → Option Slot} {w : World} (h : MPlay w0 B P st w) (k A Bq N M : Int) (pp : Option Addr) (pn pc : Nat) (sq : Option Addr) (sn sc : Nat) (s0 s1 s2 s3 : Int) (hk : 1 ≤ k ∧ k ≤ 6) :
    Calls Try.prog 34 #[.pointer (some ⟨P, 0, none⟩), .agg #[.int .i64 k, .int .i64 A, .int .i64 Bq, .int .i64 N, .int .i64 M, .slice pp pn pc, .slice sq sn sc, .int .i64 s0, .int .i64 s1, .int .i64 s2, .int .i64 s3]] w fun r w' => r = .returned (.bool true) ∧ ∃ st', MPlay w0 B P st' w' := by
  obtain ⟨a, ha, hA⟩ := and3_nat A
  obtain ⟨b, hb, hB⟩ := and3_nat Bq
  by_cases h1 : k = 1
  · subst h1; exact marks_new h A Bq N M pp pn pc sq sn sc s0 s1 s2 s3
  · cases hsa : st a with
    | none => exact marks_none h A Bq N M pp pn pc sq sn sc s0 s1 s2 s3 k (by simpa using h1) a ha hA hsa
    | some s =>
      rcases (show k = 2 ∨ k = 3 ∨ k = 4 ∨ k = 5 ∨ k = 6 by omega) with rfl | rfl | rfl | rfl | rfl
      · exact marks_set h A Bq N M pp pn pc sq sn sc s0 s1 s2 s3 a ha hA s hsa
      · exact marks_has h A Bq N M pp pn pc sq sn sc s0 s1 s2 s3 a ha hA s hsa
      · exact marks_count h A Bq N M pp pn pc sq sn sc s0 s1 s2 s3 a ha hA s hsa
      · cases hsb : st b with
        | none => exact marks_merge_nil h A Bq N M pp pn pc sq sn sc s0 s1 s2 s3 a ha hA s hsa b hb hB hsb
        | some t => exact marks_merge_some h A Bq N M pp pn pc sq sn sc s0 s1 s2 s3 a ha hA s hsa b hb hB t hsb
      · exact marks_holes h A Bq N M pp pn pc sq sn sc s0 s1 s2 s3 a ha hA s hsa

end Go.Proofs.Ytnafocbgapianab
