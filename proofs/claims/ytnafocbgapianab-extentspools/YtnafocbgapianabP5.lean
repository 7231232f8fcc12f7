import Derived.Test.YtnafocbgapianabP4
import Derived.Test.YtnafocbgapianabK0
namespace Go.Proofs.Ytnafocbgapianab
open Go.RowKit

theorem SpIn.lt_kept {w w' : World} {p : Option Addr} {l : List (Int × Int)} {X : Nat → Prop} (h : SpIn w p l) (k : Keeps X w w') (hX : 0 < l.length → ∀ b, p.map (·.block) = some b → b < w.heap.size → ¬ X b) : SpIn w' p l := by
  intro h0
  obtain ⟨b, o, e, hb, hc⟩ := h h0
  have hn : ¬ X b := hX h0 b (by rw [e]; rfl) hb
  exact ⟨b, o, e, Nat.lt_of_lt_of_le hb k.size, fun i hi => ⟨k.cell (hc i hi).1 hn, k.cell (hc i hi).2 hn⟩⟩

set_option maxHeartbeats 4000000 in
set_option maxRecDepth 20000 in
theorem makes_shape {w0 : World} {B P : Nat} {st : Nat → Option PSlot} {w : World} (h : PPlay w0 B P st w) (A Bq N M : Int) (pp : Option Addr) (pn pc : Nat) (sq : Option Addr) (sc : Nat) (l : List (Int × Int)) (s0 s1 s2 s3 : Int) (hin : SpIn w sq l) (hlow : 0 < l.length → ∀ b, sq.map (·.block) = some b → b < B) (hll : l.length ≤ maxLen) (hlw : l.length * 16 ≤ 140737488355328) (hn : ¬ (goodI s0 s1 s2 ∧ s3 = dataOf s1)) :
    Calls Try.prog 58 #[.pointer (some ⟨P, 0, none⟩), .agg #[.int .i64 11, .int .i64 A, .int .i64 Bq, .int .i64 N, .int .i64 M, .slice pp pn pc, .slice sq l.length sc, .int .i64 s0, .int .i64 s1, .int .i64 s2, .int .i64 s3]] w fun r w' => r = .returned (.bool true) ∧ ∃ st', PPlay w0 B P st' w' := by
  obtain ⟨a, ha, hA⟩ := and3_nat A
  obtain ⟨b, hb, hB⟩ := and3_nat Bq
  have ha4 : (a : Int) < 4 := by omega
  have ha0 : (0 : Int) ≤ (a : Int) := by omega
  have hQ := (MapKept.heap_alloc w (.cells #[.int .i64 11, .int .i64 A, .int .i64 Bq, .int .i64 N, .int .i64 M, .slice pp pn pc, .slice sq l.length sc, .int .i64 s0, .int .i64 s1, .int .i64 s2, .int .i64 s3] 75)).1
  have g0 : Keeps (fun j => w.heap.size ≤ j) w (w.alloc (.cells #[.int .i64 11, .int .i64 A, .int .i64 Bq, .int .i64 N, .int .i64 M, .slice pp pn pc, .slice sq l.length sc, .int .i64 s0, .int .i64 s1, .int .i64 s2, .int .i64 s3] 75)) := Keeps.of (World.grownBy_alloc w _ none) (by simp)
  have H1 := Hid.mk' (h.grown g0)
  have hPl := heap_lt h.at_
  have hBl := h.low.1
  have hin1 := hin.lt_kept g0 (fun _ b _ hb => by omega)
  have hs1 : (w.alloc (.cells #[.int .i64 11, .int .i64 A, .int .i64 Bq, .int .i64 N, .int .i64 M, .slice pp pn pc, .slice sq l.length sc, .int .i64 s0, .int .i64 s1, .int .i64 s2, .int .i64 s3] 75)).heap.size = w.heap.size + 1 := by simp
  obtain ⟨c0, c1, c2, c3, c4⟩ := op_cells hQ
  obtain ⟨c5, c6, c7, c8, c9, c10⟩ := op_cells2 hQ
  have hcp := copySpansI (w.alloc (.cells #[.int .i64 11, .int .i64 A, .int .i64 Bq, .int .i64 N, .int .i64 M, .slice pp pn pc, .slice sq l.length sc, .int .i64 s0, .int .i64 s1, .int .i64 s2, .int .i64 s3] 75)) sq sc l hin1 hll hlw
  obtain ⟨w1, hw1⟩ : ∃ w1, w1 = w.alloc (.cells #[.int .i64 11, .int .i64 A, .int .i64 Bq, .int .i64 N, .int .i64 M, .slice pp pn pc, .slice sq l.length sc, .int .i64 s0, .int .i64 s1, .int .i64 s2, .int .i64 s3] 75) := ⟨_, rfl⟩
  obtain ⟨Q, hQe⟩ : ∃ Q, Q = w.heap.size := ⟨_, rfl⟩
  rw [← hw1] at hQ H1 hin1 hs1
  rw [← hQe] at hQ hs1
  have HQ := Hid.mk' hQ
  have HIN := Hid.mk' hin1
  have HLO := Hid.mk' hlow
  have HS1 := Hid.mk' hs1
  have hPQ : P < Q := by omega
  have hQ1 : Q < w1.heap.size := by omega
  have HW := Hid.mk' (And.intro hw1 hQe)
  clear h g0 hin hin1 hlow hQ hs1 hw1 hQe hPl
  go_enter Try.func58, Try.ntmps58
  go_wp2_with (first
    | (go_at_call 13; refine hcp.mono ?_; clear hcp; rintro r w2 ⟨q2, cq2, rfl, hi2, hq2, hK2⟩
       rw [← HW.out.1] at hK2 hq2
       rw [← HW.out.2]
       have hQ2 := hK2.at HQ.out (by omega)
       obtain ⟨d0, d1, d2, d3, d4⟩ := op_cells hQ2
       obtain ⟨d5, d6, d7, d8, d9, d10⟩ := op_cells2 hQ2
       have hii2 := HIN.out.lt_kept hK2 (fun _ b _ hb => by omega)
       have hsz2 := hK2.size
       have hnp := newPool_shape s0 s1 s2 s3 w2 sq l.length sc hn
       have HX2 := Hid.mk' (And.intro hK2 (And.intro hi2 (And.intro hii2 (And.intro hQ2 hq2))))
       clear hK2 hi2 hii2 hQ2 hq2 c0 c1 c2 c3 c4 c5 c6 c7 c8 c9 c10 d1 d2 d3 d4 d5)
    | (go_at_call 10; refine hnp.mono ?_; clear hnp; rintro r w3 ⟨rfl, hx3⟩
       have hQ3 := hx3.at HX2.out.2.2.2.1 (by have := heap_lt HX2.out.2.2.2.1; omega)
       obtain ⟨x0, x1, x2, x3, x4⟩ := op_cells hQ3
       obtain ⟨x5, x6, x7, x8, x9, x10⟩ := op_cells2 hQ3
       have hi3 := HX2.out.2.1.lt_kept hx3 (fun _ b _ hb => by omega)
       have hii3 := HX2.out.2.2.1.lt_kept hx3 (fun _ b _ hb => by omega)
       have hsz3 := hx3.size
       have hrn := rnewPool_shape s0 s1 s2 s3 w3 q2 l.length cq2 hn
       have HX3 := Hid.mk' (And.intro hx3 (And.intro hi3 (And.intro hii3 hQ3)))
       clear hx3 hi3 hii3 hQ3 x1 x2 x3 x4 x5 d0 d6 d7 d8 d9 d10)
    | (go_at_call 72; refine hrn.mono ?_; clear hrn; rintro r w4 ⟨rfl, hx4⟩
       have hQ4 := hx4.at HX3.out.2.2.2 (by have := heap_lt HX3.out.2.2.2; omega)
       obtain ⟨y0, y1, y2, y3, y4⟩ := op_cells hQ4
       obtain ⟨y5, y6, y7, y8, y9, y10⟩ := op_cells2 hQ4
       have hi4 := HX3.out.2.1.lt_kept hx4 (fun _ b _ hb => by omega)
       have hii4 := HX3.out.2.2.1.lt_kept hx4 (fun _ b _ hb => by omega)
       have hsm := sameSpansI w4 sq q2 sc cq2 l hii4 hi4 hll
       have hK4 : Keeps (fun j => w1.heap.size ≤ j) w1 w4 := (HX2.out.1.then HX3.out.1 (fun j hj => by left; omega)).then hx4 (fun j hj => by left; omega)
       have HT := Hid.mk' (And.intro (H1.out.grown hK4) hK4)
       skip
       clear hx4 hi4 hii4 hQ4 hK4 y1 y2 y3 y4 y5 x0 x6 x7 x8 x9 x10)
    | (go_at_call 18; refine hsm.mono ?_; clear hsm; rintro r w5 ⟨rfl, m5, hw5⟩; subst w5))
  go_ret
  exact ⟨ret_bool (by simp), _, HT.out.1.drewN _⟩


set_option maxHeartbeats 4000000 in
set_option maxRecDepth 20000 in
theorem makes_range {w0 : World} {B P : Nat} {st : Nat → Option PSlot} {w : World} (h : PPlay w0 B P st w) (A Bq N M : Int) (pp : Option Addr) (pn pc : Nat) (sq : Option Addr) (sc : Nat) (l : List (Int × Int)) (sh : Sh) (hsh : sh.Good) (hin : SpIn w sq l) (hlow : 0 < l.length → ∀ b, sq.map (·.block) = some b → b < B) (hll : l.length ≤ maxLen) (hlw : l.length * 16 ≤ 140737488355328) (hr : ∀ s ∈ l, s.1 ≤ 9223372036854775807) (hb0 : gsp sh.pages sh.data l = false) :
    Calls Try.prog 58 #[.pointer (some ⟨P, 0, none⟩), .agg #[.int .i64 11, .int .i64 A, .int .i64 Bq, .int .i64 N, .int .i64 M, .slice pp pn pc, .slice sq l.length sc, .int .i64 sh.pages, .int .i64 sh.inodes, .int .i64 sh.cores, .int .i64 sh.data]] w fun r w' => r = .returned (.bool true) ∧ ∃ st', PPlay w0 B P st' w' := by
  obtain ⟨a, ha, hA⟩ := and3_nat A
  obtain ⟨b, hb, hB⟩ := and3_nat Bq
  have ha4 : (a : Int) < 4 := by omega
  have ha0 : (0 : Int) ≤ (a : Int) := by omega
  have hQ := (MapKept.heap_alloc w (.cells #[.int .i64 11, .int .i64 A, .int .i64 Bq, .int .i64 N, .int .i64 M, .slice pp pn pc, .slice sq l.length sc, .int .i64 sh.pages, .int .i64 sh.inodes, .int .i64 sh.cores, .int .i64 sh.data] 75)).1
  have g0 : Keeps (fun j => w.heap.size ≤ j) w (w.alloc (.cells #[.int .i64 11, .int .i64 A, .int .i64 Bq, .int .i64 N, .int .i64 M, .slice pp pn pc, .slice sq l.length sc, .int .i64 sh.pages, .int .i64 sh.inodes, .int .i64 sh.cores, .int .i64 sh.data] 75)) := Keeps.of (World.grownBy_alloc w _ none) (by simp)
  have H1 := Hid.mk' (h.grown g0)
  have hPl := heap_lt h.at_
  have hBl := h.low.1
  have hin1 := hin.lt_kept g0 (fun _ b _ hb => by omega)
  have hs1 : (w.alloc (.cells #[.int .i64 11, .int .i64 A, .int .i64 Bq, .int .i64 N, .int .i64 M, .slice pp pn pc, .slice sq l.length sc, .int .i64 sh.pages, .int .i64 sh.inodes, .int .i64 sh.cores, .int .i64 sh.data] 75)).heap.size = w.heap.size + 1 := by simp
  obtain ⟨c0, c1, c2, c3, c4⟩ := op_cells hQ
  obtain ⟨c5, c6, c7, c8, c9, c10⟩ := op_cells2 hQ
  have hcp := copySpansI (w.alloc (.cells #[.int .i64 11, .int .i64 A, .int .i64 Bq, .int .i64 N, .int .i64 M, .slice pp pn pc, .slice sq l.length sc, .int .i64 sh.pages, .int .i64 sh.inodes, .int .i64 sh.cores, .int .i64 sh.data] 75)) sq sc l hin1 hll hlw
  obtain ⟨w1, hw1⟩ : ∃ w1, w1 = w.alloc (.cells #[.int .i64 11, .int .i64 A, .int .i64 Bq, .int .i64 N, .int .i64 M, .slice pp pn pc, .slice sq l.length sc, .int .i64 sh.pages, .int .i64 sh.inodes, .int .i64 sh.cores, .int .i64 sh.data] 75) := ⟨_, rfl⟩
  obtain ⟨Q, hQe⟩ : ∃ Q, Q = w.heap.size := ⟨_, rfl⟩
  rw [← hw1] at hQ H1 hin1 hs1
  rw [← hQe] at hQ hs1
  have HQ := Hid.mk' hQ
  have HIN := Hid.mk' hin1
  have HLO := Hid.mk' hlow
  have HS1 := Hid.mk' hs1
  have hPQ : P < Q := by omega
  have hQ1 : Q < w1.heap.size := by omega
  have HW := Hid.mk' (And.intro hw1 hQe)
  clear h g0 hin hin1 hlow hQ hs1 hw1 hQe hPl
  go_enter Try.func58, Try.ntmps58
  go_wp2_with (first
    | (go_at_call 13; refine hcp.mono ?_; clear hcp; rintro r w2 ⟨q2, cq2, rfl, hi2, hq2, hK2⟩
       rw [← HW.out.1] at hK2 hq2
       rw [← HW.out.2]
       have hQ2 := hK2.at HQ.out (by omega)
       obtain ⟨d0, d1, d2, d3, d4⟩ := op_cells hQ2
       obtain ⟨d5, d6, d7, d8, d9, d10⟩ := op_cells2 hQ2
       have hii2 := HIN.out.lt_kept hK2 (fun _ b _ hb => by omega)
       have hsz2 := hK2.size
       have hnp := newPool_range sh hsh w2 sq sc l hii2 hll hr hb0
       unfold Sh.agg at hnp
       have HX2 := Hid.mk' (And.intro hK2 (And.intro hi2 (And.intro hii2 (And.intro hQ2 hq2))))
       clear hK2 hi2 hii2 hQ2 hq2 c0 c1 c2 c3 c4 c5 c6 c7 c8 c9 c10 d1 d2 d3 d4 d5)
    | (go_at_call 10; refine hnp.mono ?_; clear hnp; rintro r w3 ⟨rfl, hx3⟩
       have hQ3 := hx3.at HX2.out.2.2.2.1 (by have := heap_lt HX2.out.2.2.2.1; omega)
       obtain ⟨x0, x1, x2, x3, x4⟩ := op_cells hQ3
       obtain ⟨x5, x6, x7, x8, x9, x10⟩ := op_cells2 hQ3
       have hi3 := HX2.out.2.1.lt_kept hx3 (fun _ b _ hb => by omega)
       have hii3 := HX2.out.2.2.1.lt_kept hx3 (fun _ b _ hb => by omega)
       have hsz3 := hx3.size
       have hrn := rnewPool_any sh hsh w3 q2 cq2 l hi3 hll
       unfold Sh.agg at hrn
       have HX3 := Hid.mk' (And.intro hx3 (And.intro hi3 (And.intro hii3 hQ3)))
       clear hx3 hi3 hii3 hQ3 x1 x2 x3 x4 x5 d0 d6 d7 d8 d9 d10)
    | (go_at_call 72; refine hrn.mono ?_; clear hrn; rintro r w4 ⟨hx4, hor⟩
       have hre : r = .returned (.tuple #[.pointer none, .int .i64 52]) := by rcases hor with ⟨_, h⟩ | ⟨h, _⟩; exact h; rw [hb0] at h; cases h
       subst hre
       clear hor
       have hQ4 := hx4.at HX3.out.2.2.2 (by have := heap_lt HX3.out.2.2.2; omega)
       obtain ⟨y0, y1, y2, y3, y4⟩ := op_cells hQ4
       obtain ⟨y5, y6, y7, y8, y9, y10⟩ := op_cells2 hQ4
       have hi4 := HX3.out.2.1.lt_kept hx4 (fun _ b _ hb => by omega)
       have hii4 := HX3.out.2.2.1.lt_kept hx4 (fun _ b _ hb => by omega)
       have hsm := sameSpansI w4 sq q2 sc cq2 l hii4 hi4 hll
       have hK4 : Keeps (fun j => w1.heap.size ≤ j) w1 w4 := (HX2.out.1.then HX3.out.1 (fun j hj => by left; omega)).then hx4 (fun j hj => by left; omega)
       have HT := Hid.mk' (And.intro (H1.out.grown hK4) hK4)
       skip
       clear hx4 hi4 hii4 hQ4 hK4 y1 y2 y3 y4 y5 x0 x6 x7 x8 x9 x10)
    | (go_at_call 18; refine hsm.mono ?_; clear hsm; rintro r w5 ⟨rfl, m5, hw5⟩; subst w5))
  go_ret
  exact ⟨ret_bool (by simp), _, HT.out.1.drewN _⟩


set_option maxHeartbeats 4000000 in
set_option maxRecDepth 20000 in
theorem makes_good {w0 : World} {B P : Nat} {st : Nat → Option PSlot} {w : World} (h : PPlay w0 B P st w) (A Bq N M : Int) (pp : Option Addr) (pn pc : Nat) (sq : Option Addr) (sc : Nat) (l : List (Int × Int)) (sh : Sh) (hsh : sh.Good) (hin : SpIn w sq l) (hlow : 0 < l.length → ∀ b, sq.map (·.block) = some b → b < B) (hll : l.length ≤ maxLen) (hlw : l.length * 16 ≤ 140737488355328) (hr : ∀ s ∈ l, s.1 ≤ 9223372036854775807) (hb0 : gsp sh.pages sh.data l = true) :
    Calls Try.prog 58 #[.pointer (some ⟨P, 0, none⟩), .agg #[.int .i64 11, .int .i64 A, .int .i64 Bq, .int .i64 N, .int .i64 M, .slice pp pn pc, .slice sq l.length sc, .int .i64 sh.pages, .int .i64 sh.inodes, .int .i64 sh.cores, .int .i64 sh.data]] w fun r w' => r = .returned (.bool true) ∧ ∃ st', PPlay w0 B P st' w' := by
  obtain ⟨a, ha, hA⟩ := and3_nat A
  obtain ⟨b, hb, hB⟩ := and3_nat Bq
  have ha4 : (a : Int) < 4 := by omega
  have ha0 : (0 : Int) ≤ (a : Int) := by omega
  have hQ := (MapKept.heap_alloc w (.cells #[.int .i64 11, .int .i64 A, .int .i64 Bq, .int .i64 N, .int .i64 M, .slice pp pn pc, .slice sq l.length sc, .int .i64 sh.pages, .int .i64 sh.inodes, .int .i64 sh.cores, .int .i64 sh.data] 75)).1
  have g0 : Keeps (fun j => w.heap.size ≤ j) w (w.alloc (.cells #[.int .i64 11, .int .i64 A, .int .i64 Bq, .int .i64 N, .int .i64 M, .slice pp pn pc, .slice sq l.length sc, .int .i64 sh.pages, .int .i64 sh.inodes, .int .i64 sh.cores, .int .i64 sh.data] 75)) := Keeps.of (World.grownBy_alloc w _ none) (by simp)
  have H1 := Hid.mk' (h.grown g0)
  have hPl := heap_lt h.at_
  have hBl := h.low.1
  have hin1 := hin.lt_kept g0 (fun _ b _ hb => by omega)
  have hs1 : (w.alloc (.cells #[.int .i64 11, .int .i64 A, .int .i64 Bq, .int .i64 N, .int .i64 M, .slice pp pn pc, .slice sq l.length sc, .int .i64 sh.pages, .int .i64 sh.inodes, .int .i64 sh.cores, .int .i64 sh.data] 75)).heap.size = w.heap.size + 1 := by simp
  obtain ⟨c0, c1, c2, c3, c4⟩ := op_cells hQ
  obtain ⟨c5, c6, c7, c8, c9, c10⟩ := op_cells2 hQ
  have hcp := copySpansI (w.alloc (.cells #[.int .i64 11, .int .i64 A, .int .i64 Bq, .int .i64 N, .int .i64 M, .slice pp pn pc, .slice sq l.length sc, .int .i64 sh.pages, .int .i64 sh.inodes, .int .i64 sh.cores, .int .i64 sh.data] 75)) sq sc l hin1 hll hlw
  obtain ⟨w1, hw1⟩ : ∃ w1, w1 = w.alloc (.cells #[.int .i64 11, .int .i64 A, .int .i64 Bq, .int .i64 N, .int .i64 M, .slice pp pn pc, .slice sq l.length sc, .int .i64 sh.pages, .int .i64 sh.inodes, .int .i64 sh.cores, .int .i64 sh.data] 75) := ⟨_, rfl⟩
  obtain ⟨Q, hQe⟩ : ∃ Q, Q = w.heap.size := ⟨_, rfl⟩
  rw [← hw1] at hQ H1 hin1 hs1
  rw [← hQe] at hQ hs1
  have HQ := Hid.mk' hQ
  have HIN := Hid.mk' hin1
  have HLO := Hid.mk' hlow
  have HS1 := Hid.mk' hs1
  have hPQ : P < Q := by omega
  have hQ1 : Q < w1.heap.size := by omega
  have HW := Hid.mk' (And.intro hw1 hQe)
  clear h g0 hin hin1 hlow hQ hs1 hw1 hQe hPl
  go_enter Try.func58, Try.ntmps58
  go_wp2_with (first
    | (go_at_call 13; refine hcp.mono ?_; clear hcp; rintro r w2 ⟨q2, cq2, rfl, hi2, hq2, hK2⟩
       rw [← HW.out.1] at hK2 hq2
       rw [← HW.out.2]
       have hQ2 := hK2.at HQ.out (by omega)
       obtain ⟨d0, d1, d2, d3, d4⟩ := op_cells hQ2
       obtain ⟨d5, d6, d7, d8, d9, d10⟩ := op_cells2 hQ2
       have hii2 := HIN.out.lt_kept hK2 (fun _ b _ hb => by omega)
       have hsz2 := hK2.size
       have hnp := newPool_yes sh hsh w2 sq sc l hii2 hll hr hb0
       unfold Sh.agg at hnp
       have HX2 := Hid.mk' (And.intro hK2 (And.intro hi2 (And.intro hii2 (And.intro hQ2 hq2))))
       clear hK2 hi2 hii2 hQ2 hq2 c0 c1 c2 c3 c4 c5 c6 c7 c8 c9 c10 d1 d2 d3 d4 d5)
    | (go_at_call 10; refine hnp.mono ?_; clear hnp; rintro r w3 ⟨d, rfl, hd3, hp3, hx3⟩
       have hQ3 := hx3.at HX2.out.2.2.2.1 (by have := heap_lt HX2.out.2.2.2.1; omega)
       obtain ⟨x0, x1, x2, x3, x4⟩ := op_cells hQ3
       obtain ⟨x5, x6, x7, x8, x9, x10⟩ := op_cells2 hQ3
       have hi3 := HX2.out.2.1.lt_kept hx3 (fun _ b _ hb => by omega)
       have hii3 := HX2.out.2.2.1.lt_kept hx3 (fun _ b _ hb => by omega)
       have hsz3 := hx3.size
       have hrn := rnewPool_any sh hsh w3 q2 cq2 l hi3 hll
       unfold Sh.agg at hrn
       have HP3 := Hid.mk' (And.intro hd3 hp3)
       clear hd3 hp3
       have HX3 := Hid.mk' (And.intro hx3 (And.intro hi3 (And.intro hii3 hQ3)))
       clear hx3 hi3 hii3 hQ3 x1 x2 x3 x4 x5 d0 d6 d7 d8 d9 d10)
    | (go_at_call 72; refine hrn.mono ?_; clear hrn; rintro r w4 ⟨hx4, hor⟩
       obtain ⟨e, rfl, he4, v, hv4, hr4⟩ : ∃ e, r = .returned (.tuple #[.pointer (some ⟨e, 0, none⟩), .int .i64 0]) ∧ w3.heap.size ≤ e ∧ ∃ v, (∀ g, v.ownBlock = some g → w3.heap.size ≤ g) ∧ RpAt w4 e v sh (inSp l) := by rcases hor with ⟨h, _⟩ | ⟨_, h⟩; rw [hb0] at h; cases h; exact h
       clear hor
       have hQ4 := hx4.at HX3.out.2.2.2 (by have := heap_lt HX3.out.2.2.2; omega)
       obtain ⟨y0, y1, y2, y3, y4⟩ := op_cells hQ4
       obtain ⟨y5, y6, y7, y8, y9, y10⟩ := op_cells2 hQ4
       have hi4 := HX3.out.2.1.lt_kept hx4 (fun _ b _ hb => by omega)
       have hii4 := HX3.out.2.2.1.lt_kept hx4 (fun _ b _ hb => by omega)
       have hsm := sameSpansI w4 sq q2 sc cq2 l hii4 hi4 hll
       have hK4 : Keeps (fun j => w1.heap.size ≤ j) w1 w4 := (HX2.out.1.then HX3.out.1 (fun j hj => by left; omega)).then hx4 (fun j hj => by left; omega)
       have HT := Hid.mk' (And.intro (H1.out.grown hK4) hK4)
       have hp4 := HP3.out.2.kept hx4 (by have := heap_lt HP3.out.2.at_; omega)
       have p1 := HT.out.1.cell1 a ha
       have p2 := HT.out.1.frozen (8 + a)
       have p3 := HT.out.1.cell2 a ha
       have p4 := HT.out.1.frozen (12 + a)
       have HX4 := Hid.mk' (And.intro hp4 (And.intro hr4 (And.intro he4 hv4)))
       clear hp4 hr4 he4 hv4
       clear hx4 hi4 hii4 hQ4 hK4 y1 y2 y3 y4 y5 x0 x6 x7 x8 x9 x10)
    | (go_at_call 18; refine hsm.mono ?_; clear hsm; rintro r w5 ⟨rfl, m5, hw5⟩; subst w5))
  go_ret
  have hT := (HT.out.1.drewN m5)
  have hset6 := setCell_block (a := ⟨P, 8 + a, none⟩) (v := .pointer (some ⟨d, 0, none⟩)) hT.at_ rfl
  simp only at hset6
  rw [mkPlayP_set1 _ _ a _ ha] at hset6
  have hkp6 := keep_set' (w4.drewN m5) P (8 + a) (.pointer (some ⟨d, 0, none⟩))
  have hset7 := setCell_block (a := ⟨P, 12 + a, none⟩) (v := .pointer (some ⟨e, 0, none⟩)) hset6 rfl
  simp only at hset7
  rw [mkPlayP_set2 _ _ a _ ha] at hset7
  have hkp7 := keep_set' ((w4.drewN m5).setCell ⟨P, 8 + a, none⟩ (.pointer (some ⟨d, 0, none⟩))) P (12 + a) (.pointer (some ⟨e, 0, none⟩))
  have h4 := HX4.out
  have hd4 := HP3.out.1
  have hkp8 := hkp6.trans hkp7
  have hdw := hkp6.size
  refine ⟨ret_bool (by simp), _, H1.out.fresh ha ⟨sh, inSp l, d, e, v⟩ hset7 ((h4.1.kept (Keeps.drewN (fun _ => False) _ m5) (by simp)).kept hkp8 (by show ¬ d = P; omega)) ((h4.2.1.drewN m5).kept hkp8 (by show ¬ e = P; omega) (fun g hg => by have := h4.2.2.2 g hg; show ¬ g = P; omega)) (by show w1.heap.size ≤ d; omega) (fun g hg => by have := h4.2.2.2 g hg; omega) ?_⟩
  exact ((HT.out.2.mono (fun j _ hj => Or.inr hj)).trans (Keeps.drewN _ _ m5)).then hkp8 (fun j hj => Or.inl (Or.inl hj))


set_option maxHeartbeats 4000000 in
set_option maxRecDepth 20000 in
theorem copy_nn {w0 : World} {B P : Nat} {st : Nat → Option PSlot} {w : World} (h : PPlay w0 B P st w) (A Bq N M : Int) (pp : Option Addr) (pn pc : Nat) (sq : Option Addr) (sn sc : Nat) (s0 s1 s2 s3 : Int) (a b : Nat) (ha : a < 4) (hb : b < 4) (hA : bits .and .i64 A 3 = (a : Int)) (hB : bits .and .i64 Bq 3 = (b : Int)) (hsa : st a = none) (hsb : st b = none) :
    Calls Try.prog 58 #[.pointer (some ⟨P, 0, none⟩), .agg #[.int .i64 19, .int .i64 A, .int .i64 Bq, .int .i64 N, .int .i64 M, .slice pp pn pc, .slice sq sn sc, .int .i64 s0, .int .i64 s1, .int .i64 s2, .int .i64 s3]] w fun r w' => r = .returned (.bool true) ∧ ∃ st', PPlay w0 B P st' w' := by
  have ha4 : (a : Int) < 4 := by omega
  have ha0 : (0 : Int) ≤ (a : Int) := by omega
  have hb4 : (b : Int) < 4 := by omega
  have hb0 : (0 : Int) ≤ (b : Int) := by omega
  have hQ := (MapKept.heap_alloc w (.cells #[.int .i64 19, .int .i64 A, .int .i64 Bq, .int .i64 N, .int .i64 M, .slice pp pn pc, .slice sq sn sc, .int .i64 s0, .int .i64 s1, .int .i64 s2, .int .i64 s3] 75)).1
  have g0 : Keeps (fun j => w.heap.size ≤ j) w (w.alloc (.cells #[.int .i64 19, .int .i64 A, .int .i64 Bq, .int .i64 N, .int .i64 M, .slice pp pn pc, .slice sq sn sc, .int .i64 s0, .int .i64 s1, .int .i64 s2, .int .i64 s3] 75)) := Keeps.of (World.grownBy_alloc w _ none) (by simp)
  have H1 := Hid.mk' (h.grown g0)
  have hPl := heap_lt h.at_
  have hs1 : (w.alloc (.cells #[.int .i64 19, .int .i64 A, .int .i64 Bq, .int .i64 N, .int .i64 M, .slice pp pn pc, .slice sq sn sc, .int .i64 s0, .int .i64 s1, .int .i64 s2, .int .i64 s3] 75)).heap.size = w.heap.size + 1 := by simp
  have hxa := H1.out.cell1 a ha
  have hya := H1.out.cell2 a ha
  have hxb := H1.out.cell1 b hb
  have hyb := H1.out.cell2 b hb
  obtain ⟨c0, c1, c2, c3, c4⟩ := op_cells hQ
  rw [hsa] at hxa hya
  rw [hsb] at hxb hyb
  simp only [pq, eq_] at hxa hya hxb hyb
  clear hsa hsb hQ
  clear h g0
  go_enter Try.func58, Try.ntmps58
  go_wp2
  go_ret
  exact ⟨ret_bool (by simp), _, H1.out⟩


set_option maxHeartbeats 4000000 in
set_option maxRecDepth 20000 in
theorem copy_ns {w0 : World} {B P : Nat} {st : Nat → Option PSlot} {w : World} (h : PPlay w0 B P st w) (A Bq N M : Int) (pp : Option Addr) (pn pc : Nat) (sq : Option Addr) (sn sc : Nat) (s0 s1 s2 s3 : Int) (a b : Nat) (ha : a < 4) (hb : b < 4) (hA : bits .and .i64 A 3 = (a : Int)) (hB : bits .and .i64 Bq 3 = (b : Int)) (hsa : st a = none) (t : PSlot) (hsb : st b = some t) :
    Calls Try.prog 58 #[.pointer (some ⟨P, 0, none⟩), .agg #[.int .i64 19, .int .i64 A, .int .i64 Bq, .int .i64 N, .int .i64 M, .slice pp pn pc, .slice sq sn sc, .int .i64 s0, .int .i64 s1, .int .i64 s2, .int .i64 s3]] w fun r w' => r = .returned (.bool true) ∧ ∃ st', PPlay w0 B P st' w' := by
  have ha4 : (a : Int) < 4 := by omega
  have ha0 : (0 : Int) ≤ (a : Int) := by omega
  have hb4 : (b : Int) < 4 := by omega
  have hb0 : (0 : Int) ≤ (b : Int) := by omega
  have hQ := (MapKept.heap_alloc w (.cells #[.int .i64 19, .int .i64 A, .int .i64 Bq, .int .i64 N, .int .i64 M, .slice pp pn pc, .slice sq sn sc, .int .i64 s0, .int .i64 s1, .int .i64 s2, .int .i64 s3] 75)).1
  have g0 : Keeps (fun j => w.heap.size ≤ j) w (w.alloc (.cells #[.int .i64 19, .int .i64 A, .int .i64 Bq, .int .i64 N, .int .i64 M, .slice pp pn pc, .slice sq sn sc, .int .i64 s0, .int .i64 s1, .int .i64 s2, .int .i64 s3] 75)) := Keeps.of (World.grownBy_alloc w _ none) (by simp)
  have H1 := Hid.mk' (h.grown g0)
  have hPl := heap_lt h.at_
  have hs1 : (w.alloc (.cells #[.int .i64 19, .int .i64 A, .int .i64 Bq, .int .i64 N, .int .i64 M, .slice pp pn pc, .slice sq sn sc, .int .i64 s0, .int .i64 s1, .int .i64 s2, .int .i64 s3] 75)).heap.size = w.heap.size + 1 := by simp
  have hxa := H1.out.cell1 a ha
  have hya := H1.out.cell2 a ha
  have hxb := H1.out.cell1 b hb
  have hyb := H1.out.cell2 b hb
  obtain ⟨c0, c1, c2, c3, c4⟩ := op_cells hQ
  rw [hsa] at hxa hya
  rw [hsb] at hxb hyb
  simp only [pq, eq_] at hxa hya hxb hyb
  clear hsa hsb hQ
  clear h g0
  go_enter Try.func58, Try.ntmps58
  go_wp2
  go_ret
  exact ⟨ret_bool (by simp), _, H1.out⟩


end Go.Proofs.Ytnafocbgapianab
