import Derived.Test.YtnafocbgapianabP1
namespace Go.Proofs.Ytnafocbgapianab
open Go.RowKit

set_option maxHeartbeats 4000000 in
set_option maxRecDepth 20000 in
theorem looks_free {w : World} {d e : Nat} {v : Value} {s : Sh} {S : Nat → Bool} (h1 : PoolAt w d s S) (h2 : RpAt w e v s S) (A Bq N M : Int) (pp : Option Addr) (pn pc : Nat) (sq : Option Addr) (sn sc : Nat) (s0 s1 s2 s3 : Int) :
    Calls Try.prog 63 #[.pointer (some ⟨d, 0, none⟩), .pointer (some ⟨e, 0, none⟩), .agg #[.int .i64 14, .int .i64 A, .int .i64 Bq, .int .i64 N, .int .i64 M, .slice pp pn pc, .slice sq sn sc, .int .i64 s0, .int .i64 s1, .int .i64 s2, .int .i64 s3]] w fun r w' => r = .returned (.bool true) ∧ Keeps (fun j => w.heap.size ≤ j) w w' := by
  have g0 : Keeps (fun j => w.heap.size ≤ j) w (w.alloc (.cells #[.int .i64 14, .int .i64 A, .int .i64 Bq, .int .i64 N, .int .i64 M, .slice pp pn pc, .slice sq sn sc, .int .i64 s0, .int .i64 s1, .int .i64 s2, .int .i64 s3] 75)) := Keeps.of (World.grownBy_alloc w _ none) (by simp)
  have hdl := heap_lt h1.at_
  have b1 := h1.kept g0 (by omega)
  have r1 := h2.grown g0
  have HS1 : Hid ((w.alloc (.cells #[.int .i64 14, .int .i64 A, .int .i64 Bq, .int .i64 N, .int .i64 M, .slice pp pn pc, .slice sq sn sc, .int .i64 s0, .int .i64 s1, .int .i64 s2, .int .i64 s3] 75)).heap.size = w.heap.size + 1) := by show _ = _; simp
  have HG := Hid.mk' g0
  have HRR := Hid.mk' r1
  have HQE := Hid.mk' (show 0 = 0 from rfl)
  clear h1 h2 hdl g0
  go_enter Try.func63, Try.ntmps63
  have hf := free_any (w.alloc (.cells #[.int .i64 14, .int .i64 A, .int .i64 Bq, .int .i64 N, .int .i64 M, .slice pp pn pc, .slice sq sn sc, .int .i64 s0, .int .i64 s1, .int .i64 s2, .int .i64 s3] 75)) d s S b1
  have hrf := rfree_any (w.alloc (.cells #[.int .i64 14, .int .i64 A, .int .i64 Bq, .int .i64 N, .int .i64 M, .slice pp pn pc, .slice sq sn sc, .int .i64 s0, .int .i64 s1, .int .i64 s2, .int .i64 s3] 75)) e v s S r1
  generalize cn S s.pages = q at *
  clear b1 r1
  go_wp2_with (first
    | (go_at_call 23; refine hf.mono ?_; clear hf; rintro r w2 ⟨rfl, hw2⟩; subst w2)
    | (go_at_call 73; refine hrf.mono ?_; clear hrf; rintro r w2 ⟨rfl, hw2⟩; subst w2))
  go_ret
  exact ⟨ret_bool (by simp), HG.out⟩


set_option maxHeartbeats 4000000 in
set_option maxRecDepth 20000 in
theorem looks_has {w : World} {d e : Nat} {v : Value} {s : Sh} {S : Nat → Bool} (h1 : PoolAt w d s S) (h2 : RpAt w e v s S) (A Bq N M : Int) (pp : Option Addr) (pn pc : Nat) (sq : Option Addr) (sn sc : Nat) (s0 s1 s2 s3 : Int) :
    Calls Try.prog 63 #[.pointer (some ⟨d, 0, none⟩), .pointer (some ⟨e, 0, none⟩), .agg #[.int .i64 15, .int .i64 A, .int .i64 Bq, .int .i64 N, .int .i64 M, .slice pp pn pc, .slice sq sn sc, .int .i64 s0, .int .i64 s1, .int .i64 s2, .int .i64 s3]] w fun r w' => r = .returned (.bool true) ∧ Keeps (fun j => w.heap.size ≤ j) w w' := by
  have hQ := (MapKept.heap_alloc w (.cells #[.int .i64 15, .int .i64 A, .int .i64 Bq, .int .i64 N, .int .i64 M, .slice pp pn pc, .slice sq sn sc, .int .i64 s0, .int .i64 s1, .int .i64 s2, .int .i64 s3] 75)).1
  have g0 : Keeps (fun j => w.heap.size ≤ j) w (w.alloc (.cells #[.int .i64 15, .int .i64 A, .int .i64 Bq, .int .i64 N, .int .i64 M, .slice pp pn pc, .slice sq sn sc, .int .i64 s0, .int .i64 s1, .int .i64 s2, .int .i64 s3] 75)) := Keeps.of (World.grownBy_alloc w _ none) (by simp)
  have hdl := heap_lt h1.at_
  have b1 := h1.kept g0 (by omega)
  have r1 := h2.grown g0
  have hs1 : (w.alloc (.cells #[.int .i64 15, .int .i64 A, .int .i64 Bq, .int .i64 N, .int .i64 M, .slice pp pn pc, .slice sq sn sc, .int .i64 s0, .int .i64 s1, .int .i64 s2, .int .i64 s3] 75)).heap.size = w.heap.size + 1 := by simp
  obtain ⟨c0, c1, c2, c3, c4⟩ := op_cells hQ
  clear h1 h2 hdl
  go_enter Try.func63, Try.ntmps63
  go_wp2
  obtain ⟨w1, hw1⟩ : ∃ w1, w1 = w.alloc (.cells #[.int .i64 15, .int .i64 A, .int .i64 Bq, .int .i64 N, .int .i64 M, .slice pp pn pc, .slice sq sn sc, .int .i64 s0, .int .i64 s1, .int .i64 s2, .int .i64 s3] 75) := ⟨_, rfl⟩
  obtain ⟨Q, hQe⟩ : ∃ Q, Q = w.heap.size := ⟨_, rfl⟩
  rw [← hw1] at hQ g0 b1 r1 hs1 c0 c1 c2 c3 c4 ⊢
  rw [← hQe] at hQ hs1 c0 c1 c2 c3 c4 ⊢
  have HQE := Hid.mk' hQe
  have HQ := Hid.mk' hQ
  have HG := Hid.mk' g0
  have HB := Hid.mk' b1
  have HRR := Hid.mk' r1
  have HS1 := Hid.mk' hs1
  have hQ1 : Q < w1.heap.size := by omega
  clear hw1 hQe hQ g0 c0 c1 c2 hs1
  have hp : ∀ m, Calls Try.prog 50 #[.pointer (some ⟨d, 0, none⟩), .int .i64 N] (w1.drewN m) fun r w' => r = .returned (.bool (hasI s.pages S N)) ∧ Keeps (fun j => w1.heap.size ≤ j) (w1.drewN m) w' := fun m => (phas_any (w1.drewN m) d s S (b1.kept (Keeps.drewN (fun _ => False) _ m) (by simp)) N).mono (by rintro r w' ⟨rfl, m2, rfl⟩; exact ⟨rfl, Keeps.drewN _ _ _⟩)
  have HRP : ∀ wx, RpAt wx e v s S → Calls Try.prog 77 #[.pointer (some ⟨e, 0, none⟩), .int .i64 N] wx fun r w' => r = .returned (.bool (hasI s.pages S N)) ∧ w' = wx := fun wx hx => rphas_any wx e v s S hx N
  generalize hasI s.pages S N = q at *
  have HHQ : Hid (∀ wx, RpAt wx e v s S → Calls Try.prog 77 #[.pointer (some ⟨e, 0, none⟩), .int .i64 N] wx fun r w' => r = .returned (.bool q) ∧ w' = wx) := HRP
  clear b1 r1
  go_region_held3 (fun wx => wx.cell? ⟨Q, 3, none⟩ = some (.int .i64 N) ∧ wx.cell? ⟨Q, 4, none⟩ = some (.int .i64 M))
    (first | go_keep)
    (first
      | (go_at_call 50; refine (hp _).mono ?_; clear hp; rintro r w2 ⟨rfl, hx2⟩
         have hK2 : Keeps (fun j => w1.heap.size ≤ j) w1 w2 := (Keeps.drewN _ w1 0).trans ⟨hx2.os, hx2.tape, hx2.output, hx2.size, hx2.block⟩
         obtain ⟨z0, z1, z2, z3, z4⟩ := op_cells (hK2.at HQ.out (by omega))
         have hrh := HHQ.out w2 (HRR.out.grown hK2)
         have HK2 := Hid.mk' hK2
         clear hx2 hK2 z0 z1 z2)
      | (go_at_call 77; refine hrh.mono ?_; clear hrh; rintro r w3 ⟨rfl, hw3⟩; subst w3))
  go_wp2
  go_ret
  exact ⟨ret_bool (by simp), HG.out.then HK2.out (fun j hj => by left; have := HS1.out; have := HQE.out; omega)⟩


set_option maxHeartbeats 4000000 in
set_option maxRecDepth 20000 in
theorem looks_area {w : World} {d e : Nat} {v : Value} {s : Sh} {S : Nat → Bool} (h1 : PoolAt w d s S) (h2 : RpAt w e v s S) (A Bq N M : Int) (pp : Option Addr) (pn pc : Nat) (sq : Option Addr) (sn sc : Nat) (s0 s1 s2 s3 : Int) :
    Calls Try.prog 63 #[.pointer (some ⟨d, 0, none⟩), .pointer (some ⟨e, 0, none⟩), .agg #[.int .i64 16, .int .i64 A, .int .i64 Bq, .int .i64 N, .int .i64 M, .slice pp pn pc, .slice sq sn sc, .int .i64 s0, .int .i64 s1, .int .i64 s2, .int .i64 s3]] w fun r w' => r = .returned (.bool true) ∧ Keeps (fun j => w.heap.size ≤ j) w w' := by
  have hQ := (MapKept.heap_alloc w (.cells #[.int .i64 16, .int .i64 A, .int .i64 Bq, .int .i64 N, .int .i64 M, .slice pp pn pc, .slice sq sn sc, .int .i64 s0, .int .i64 s1, .int .i64 s2, .int .i64 s3] 75)).1
  have g0 : Keeps (fun j => w.heap.size ≤ j) w (w.alloc (.cells #[.int .i64 16, .int .i64 A, .int .i64 Bq, .int .i64 N, .int .i64 M, .slice pp pn pc, .slice sq sn sc, .int .i64 s0, .int .i64 s1, .int .i64 s2, .int .i64 s3] 75)) := Keeps.of (World.grownBy_alloc w _ none) (by simp)
  have hdl := heap_lt h1.at_
  have b1 := h1.kept g0 (by omega)
  have r1 := h2.grown g0
  have hs1 : (w.alloc (.cells #[.int .i64 16, .int .i64 A, .int .i64 Bq, .int .i64 N, .int .i64 M, .slice pp pn pc, .slice sq sn sc, .int .i64 s0, .int .i64 s1, .int .i64 s2, .int .i64 s3] 75)).heap.size = w.heap.size + 1 := by simp
  obtain ⟨c0, c1, c2, c3, c4⟩ := op_cells hQ
  clear h1 h2 hdl
  go_enter Try.func63, Try.ntmps63
  go_wp2
  obtain ⟨w1, hw1⟩ : ∃ w1, w1 = w.alloc (.cells #[.int .i64 16, .int .i64 A, .int .i64 Bq, .int .i64 N, .int .i64 M, .slice pp pn pc, .slice sq sn sc, .int .i64 s0, .int .i64 s1, .int .i64 s2, .int .i64 s3] 75) := ⟨_, rfl⟩
  obtain ⟨Q, hQe⟩ : ∃ Q, Q = w.heap.size := ⟨_, rfl⟩
  rw [← hw1] at hQ g0 b1 r1 hs1 c0 c1 c2 c3 c4 ⊢
  rw [← hQe] at hQ hs1 c0 c1 c2 c3 c4 ⊢
  have HQE := Hid.mk' hQe
  have HQ := Hid.mk' hQ
  have HG := Hid.mk' g0
  have HB := Hid.mk' b1
  have HRR := Hid.mk' r1
  have HS1 := Hid.mk' hs1
  have hQ1 : Q < w1.heap.size := by omega
  clear hw1 hQe hQ g0 c0 c1 c2 hs1
  have hp := fun m => area_any (w1.drewN m) d s S (b1.kept (Keeps.drewN (fun _ => False) _ m) (by simp)) N
  have HHQ : Hid (∀ wx, RpAt wx e v s S → Calls Try.prog 74 #[.pointer (some ⟨e, 0, none⟩), .int .i64 N] wx fun r w' => r = .returned (.agg #[.int .i64 (areaF s N), .int .i64 (areaC s N)]) ∧ Keeps (fun j => wx.heap.size ≤ j) wx w') := fun wx hx => rarea_any wx e v s S hx N
  generalize areaF s N = F at *
  generalize areaC s N = C at *
  clear b1 r1
  go_region_held3 (fun wx => wx.cell? ⟨Q, 3, none⟩ = some (.int .i64 N) ∧ wx.cell? ⟨Q, 4, none⟩ = some (.int .i64 M))
    (first | go_keep)
    (first
      | (go_at_call 20; refine (hp _).mono ?_; clear hp; rintro r w2 ⟨rfl, hx2⟩
         have hK2 : Keeps (fun j => w1.heap.size ≤ j) w1 w2 := (Keeps.drewN _ w1 0).trans ⟨hx2.os, hx2.tape, hx2.output, hx2.size, hx2.block⟩
         obtain ⟨z0, z1, z2, z3, z4⟩ := op_cells (hK2.at HQ.out (by omega))
         have hrh := HHQ.out w2 (HRR.out.grown hK2)
         have HK2 := Hid.mk' hK2
         have hs2 := hK2.size
         clear hx2 hK2 z0 z1 z2)
      | (go_at_call 74; refine hrh.mono ?_; clear hrh; rintro r w3 ⟨rfl, hx3⟩
         obtain ⟨y0, y1, y2, y3, y4⟩ := op_cells (hx3.at (HK2.out.at HQ.out (by omega)) (by omega))
         have HK3 := Hid.mk' hx3
         clear hx3 y0 y1 y2))
  go_wp2
  go_ret
  exact ⟨ret_bool (by simp), (HG.out.then HK2.out (fun j hj => by left; have := HS1.out; have := HQE.out; omega)).then HK3.out (fun j hj => by left; have := HS1.out; have := HQE.out; omega)⟩


set_option maxHeartbeats 4000000 in
set_option maxRecDepth 20000 in
theorem looks_core {w : World} {d e : Nat} {v : Value} {s : Sh} {S : Nat → Bool} (h1 : PoolAt w d s S) (h2 : RpAt w e v s S) (A Bq N M : Int) (pp : Option Addr) (pn pc : Nat) (sq : Option Addr) (sn sc : Nat) (s0 s1 s2 s3 : Int) :
    Calls Try.prog 63 #[.pointer (some ⟨d, 0, none⟩), .pointer (some ⟨e, 0, none⟩), .agg #[.int .i64 17, .int .i64 A, .int .i64 Bq, .int .i64 N, .int .i64 M, .slice pp pn pc, .slice sq sn sc, .int .i64 s0, .int .i64 s1, .int .i64 s2, .int .i64 s3]] w fun r w' => r = .returned (.bool true) ∧ Keeps (fun j => w.heap.size ≤ j) w w' := by
  have hQ := (MapKept.heap_alloc w (.cells #[.int .i64 17, .int .i64 A, .int .i64 Bq, .int .i64 N, .int .i64 M, .slice pp pn pc, .slice sq sn sc, .int .i64 s0, .int .i64 s1, .int .i64 s2, .int .i64 s3] 75)).1
  have g0 : Keeps (fun j => w.heap.size ≤ j) w (w.alloc (.cells #[.int .i64 17, .int .i64 A, .int .i64 Bq, .int .i64 N, .int .i64 M, .slice pp pn pc, .slice sq sn sc, .int .i64 s0, .int .i64 s1, .int .i64 s2, .int .i64 s3] 75)) := Keeps.of (World.grownBy_alloc w _ none) (by simp)
  have hdl := heap_lt h1.at_
  have b1 := h1.kept g0 (by omega)
  have r1 := h2.grown g0
  have hs1 : (w.alloc (.cells #[.int .i64 17, .int .i64 A, .int .i64 Bq, .int .i64 N, .int .i64 M, .slice pp pn pc, .slice sq sn sc, .int .i64 s0, .int .i64 s1, .int .i64 s2, .int .i64 s3] 75)).heap.size = w.heap.size + 1 := by simp
  obtain ⟨c0, c1, c2, c3, c4⟩ := op_cells hQ
  clear h1 h2 hdl
  go_enter Try.func63, Try.ntmps63
  go_wp2
  obtain ⟨w1, hw1⟩ : ∃ w1, w1 = w.alloc (.cells #[.int .i64 17, .int .i64 A, .int .i64 Bq, .int .i64 N, .int .i64 M, .slice pp pn pc, .slice sq sn sc, .int .i64 s0, .int .i64 s1, .int .i64 s2, .int .i64 s3] 75) := ⟨_, rfl⟩
  obtain ⟨Q, hQe⟩ : ∃ Q, Q = w.heap.size := ⟨_, rfl⟩
  rw [← hw1] at hQ g0 b1 r1 hs1 c0 c1 c2 c3 c4 ⊢
  rw [← hQe] at hQ hs1 c0 c1 c2 c3 c4 ⊢
  have HQE := Hid.mk' hQe
  have HQ := Hid.mk' hQ
  have HG := Hid.mk' g0
  have HB := Hid.mk' b1
  have HRR := Hid.mk' r1
  have HS1 := Hid.mk' hs1
  have hQ1 : Q < w1.heap.size := by omega
  clear hw1 hQe hQ g0 c0 c1 c2 hs1
  have hp := fun m => pcore_any (w1.drewN m) d s S (b1.kept (Keeps.drewN (fun _ => False) _ m) (by simp)) N
  have HHQ : Hid (∀ wx, RpAt wx e v s S → Calls Try.prog 78 #[.pointer (some ⟨e, 0, none⟩), .int .i64 N] wx fun r w' => ∃ x, r = .returned x ∧ SpAt w' wx.heap.size x (sp S (areaF s N) (areaC s N)) ∧ Keeps (fun j => wx.heap.size ≤ j) wx w') := fun wx hx => rcore_any wx e v s S hx N
  have hLl : (sp S (areaF s N) (areaC s N)).length ≤ 1024 := by have := (sp_bd S (areaF s N) (areaC s N)).2; have := area_end b1.good N; have := b1.good.2.1; omega
  generalize sp S (areaF s N) (areaC s N) = L at *
  clear b1 r1
  go_region_held3 (fun wx => wx.cell? ⟨Q, 3, none⟩ = some (.int .i64 N) ∧ wx.cell? ⟨Q, 4, none⟩ = some (.int .i64 M))
    (first | go_keep)
    (first
      | (go_at_call 19; refine (hp _).mono ?_; clear hp; rintro r w2 ⟨x2, rfl, hy2, hx2⟩
         have hK2 : Keeps (fun j => w1.heap.size ≤ j) w1 w2 := (Keeps.drewN _ w1 0).trans ⟨hx2.os, hx2.tape, hx2.output, hx2.size, hx2.block⟩
         obtain ⟨z0, z1, z2, z3, z4⟩ := op_cells (hK2.at HQ.out (by omega))
         have hrh := HHQ.out w2 (HRR.out.grown hK2)
         obtain ⟨p2, cp2, rfl, hin2, _⟩ := hy2.toIn
         have HK2 := Hid.mk' (And.intro hK2 hin2)
         have hs2 := hK2.size
         clear hx2 hK2 hy2 hin2 z0 z1 z2)
      | (go_at_call 78; refine hrh.mono ?_; clear hrh; rintro r w3 ⟨x3, rfl, hy3, hx3⟩
         obtain ⟨y0, y1, y2, y3, y4⟩ := op_cells (hx3.at (HK2.out.1.at HQ.out (by omega)) (by omega))
         obtain ⟨p3, cp3, rfl, hin3, _⟩ := hy3.toIn
         have hsm := sameSpans_yes w3 p2 p3 cp2 cp3 L (HK2.out.2.grown hx3 (fun b hb => hb)) hin3 (by omega)
         have HK3 := Hid.mk' hx3
         clear hx3 hy3 hin3 y0 y1 y2)
      | (go_at_call 18; refine hsm.mono ?_; clear hsm; rintro r w4 ⟨rfl, m4, hw4⟩; subst w4
         obtain ⟨x0, x1, x2, x3, x4⟩ := op_cells (HK3.out.at (HK2.out.1.at HQ.out (by omega)) (by omega))
         clear x0 x1 x2))
  go_wp2
  go_ret
  exact ⟨ret_bool (by simp), ((HG.out.then HK2.out.1 (fun j hj => by left; have := HS1.out; have := HQE.out; omega)).then HK3.out (fun j hj => by left; have := HS1.out; have := HQE.out; omega)).trans (Keeps.drewN _ _ _)⟩


set_option maxHeartbeats 4000000 in
set_option maxRecDepth 20000 in
theorem looks_spans {w : World} {d e : Nat} {v : Value} {s : Sh} {S : Nat → Bool} (h1 : PoolAt w d s S) (h2 : RpAt w e v s S) (A Bq N M : Int) (pp : Option Addr) (pn pc : Nat) (sq : Option Addr) (sn sc : Nat) (s0 s1 s2 s3 : Int) :
    Calls Try.prog 63 #[.pointer (some ⟨d, 0, none⟩), .pointer (some ⟨e, 0, none⟩), .agg #[.int .i64 18, .int .i64 A, .int .i64 Bq, .int .i64 N, .int .i64 M, .slice pp pn pc, .slice sq sn sc, .int .i64 s0, .int .i64 s1, .int .i64 s2, .int .i64 s3]] w fun r w' => r = .returned (.bool true) ∧ Keeps (fun j => w.heap.size ≤ j) w w' := by
  have g0 : Keeps (fun j => w.heap.size ≤ j) w (w.alloc (.cells #[.int .i64 18, .int .i64 A, .int .i64 Bq, .int .i64 N, .int .i64 M, .slice pp pn pc, .slice sq sn sc, .int .i64 s0, .int .i64 s1, .int .i64 s2, .int .i64 s3] 75)) := Keeps.of (World.grownBy_alloc w _ none) (by simp)
  have hdl := heap_lt h1.at_
  have b1 := h1.kept g0 (by omega)
  have r1 := h2.grown g0
  have HS1 : Hid ((w.alloc (.cells #[.int .i64 18, .int .i64 A, .int .i64 Bq, .int .i64 N, .int .i64 M, .slice pp pn pc, .slice sq sn sc, .int .i64 s0, .int .i64 s1, .int .i64 s2, .int .i64 s3] 75)).heap.size = w.heap.size + 1) := by show _ = _; simp
  have HG := Hid.mk' g0
  have HRR := Hid.mk' r1
  have HQE := Hid.mk' (show 0 = 0 from rfl)
  clear h1 h2 hdl g0
  go_enter Try.func63, Try.ntmps63
  have hp := pspans_any (w.alloc (.cells #[.int .i64 18, .int .i64 A, .int .i64 Bq, .int .i64 N, .int .i64 M, .slice pp pn pc, .slice sq sn sc, .int .i64 s0, .int .i64 s1, .int .i64 s2, .int .i64 s3] 75)) d s S b1
  have HHQ : Hid (∀ wx, RpAt wx e v s S → Calls Try.prog 79 #[.pointer (some ⟨e, 0, none⟩)] wx fun r w' => ∃ x, r = .returned x ∧ SpAt w' wx.heap.size x (sp S 0 s.pages) ∧ Keeps (fun j => wx.heap.size ≤ j) wx w') := fun wx hx => rpspans_any wx e v s S hx
  have hLl : (sp S 0 s.pages).length ≤ 1024 := by have := (sp_bd S 0 s.pages).2; have := b1.good.2.1; omega
  generalize sp S 0 s.pages = L at *
  clear b1 r1
  go_wp2_with (first
      | (go_at_call 14; refine hp.mono ?_; clear hp; rintro r w2 ⟨x2, rfl, hy2, hK2⟩
         have hrh := HHQ.out w2 (HRR.out.grown hK2)
         obtain ⟨p2, cp2, rfl, hin2, _⟩ := hy2.toIn
         have HK2 := Hid.mk' (And.intro hK2 hin2)
         have hs2 := hK2.size
         clear hK2 hy2 hin2)
      | (go_at_call 79; refine hrh.mono ?_; clear hrh; rintro r w3 ⟨x3, rfl, hy3, hx3⟩
         obtain ⟨p3, cp3, rfl, hin3, _⟩ := hy3.toIn
         have hsm := sameSpans_yes w3 p2 p3 cp2 cp3 L (HK2.out.2.grown hx3 (fun b hb => hb)) hin3 (by omega)
         have HK3 := Hid.mk' hx3
         clear hx3 hy3 hin3)
      | (go_at_call 18; refine hsm.mono ?_; clear hsm; rintro r w4 ⟨rfl, m4, hw4⟩; subst w4))
  go_ret
  exact ⟨ret_bool (by simp), ((HG.out.then HK2.out.1 (fun j hj => by left; have := HS1.out; have := HQE.out; omega)).then HK3.out (fun j hj => by left; have := HS1.out; have := HQE.out; omega)).trans (Keeps.drewN _ _ _)⟩


/-- looks, whatever it looks at. -/
theorem looks_any {w : World} {d e : Nat} {v : Value} {s : Sh} {S : Nat → Bool} (h1 : PoolAt w d s S) (h2 : RpAt w e v s S) (k A Bq N M : Int) (pp : Option Addr) (pn pc : Nat) (sq : Option Addr) (sn sc : Nat) (s0 s1 s2 s3 : Int) (hk : 14 ≤ k ∧ k ≤ 18) :
    Calls Try.prog 63 #[.pointer (some ⟨d, 0, none⟩), .pointer (some ⟨e, 0, none⟩), .agg #[.int .i64 k, .int .i64 A, .int .i64 Bq, .int .i64 N, .int .i64 M, .slice pp pn pc, .slice sq sn sc, .int .i64 s0, .int .i64 s1, .int .i64 s2, .int .i64 s3]] w fun r w' => r = .returned (.bool true) ∧ Keeps (fun j => w.heap.size ≤ j) w w' := by
  rcases (show k = 14 ∨ k = 15 ∨ k = 16 ∨ k = 17 ∨ k = 18 by omega) with rfl | rfl | rfl | rfl | rfl
  · exact looks_free h1 h2 A Bq N M pp pn pc sq sn sc s0 s1 s2 s3
  · exact looks_has h1 h2 A Bq N M pp pn pc sq sn sc s0 s1 s2 s3
  · exact looks_area h1 h2 A Bq N M pp pn pc sq sn sc s0 s1 s2 s3
  · exact looks_core h1 h2 A Bq N M pp pn pc sq sn sc s0 s1 s2 s3
  · exact looks_spans h1 h2 A Bq N M pp pn pc sq sn sc s0 s1 s2 s3

end Go.Proofs.Ytnafocbgapianab
