import Derived.Test.YtnafocbgapianabP2
import Derived.Test.YtnafocbgapianabP3
namespace Go.Proofs.Ytnafocbgapianab
open Go.RowKit

set_option maxHeartbeats 4000000 in
set_option maxRecDepth 20000 in
theorem pools_none {w0 : World} {B P : Nat} {st : Nat → Option PSlot} {w : World} (h : PPlay w0 B P st w) (A Bq N M : Int) (k : Int) (pp : Option Addr) (pn pc : Nat) (sq : Option Addr) (sn sc : Nat) (s0 s1 s2 s3 : Int) (hk1 : (k == 11) = false) (hk2 : (k == 19) = false) (a : Nat) (ha : a < 4) (hA : bits .and .i64 A 3 = (a : Int)) (hsa : st a = none) :
    Calls Try.prog 38 #[.pointer (some ⟨P, 0, none⟩), .agg #[.int .i64 k, .int .i64 A, .int .i64 Bq, .int .i64 N, .int .i64 M, .slice pp pn pc, .slice sq sn sc, .int .i64 s0, .int .i64 s1, .int .i64 s2, .int .i64 s3]] w fun r w' => r = .returned (.bool true) ∧ ∃ st', PPlay w0 B P st' w' := by
  have ha4 : (a : Int) < 4 := by omega
  have ha0 : (0 : Int) ≤ (a : Int) := by omega
  have hQ := (MapKept.heap_alloc w (.cells #[.int .i64 k, .int .i64 A, .int .i64 Bq, .int .i64 N, .int .i64 M, .slice pp pn pc, .slice sq sn sc, .int .i64 s0, .int .i64 s1, .int .i64 s2, .int .i64 s3] 75)).1
  have g0 : Keeps (fun j => w.heap.size ≤ j) w (w.alloc (.cells #[.int .i64 k, .int .i64 A, .int .i64 Bq, .int .i64 N, .int .i64 M, .slice pp pn pc, .slice sq sn sc, .int .i64 s0, .int .i64 s1, .int .i64 s2, .int .i64 s3] 75)) := Keeps.of (World.grownBy_alloc w _ none) (by simp)
  have H1 := Hid.mk' (h.grown g0)
  have hPl := heap_lt h.at_
  have hBl := h.low.1
  have hx := H1.out.cell1 a ha
  have hy := H1.out.cell2 a ha
  rw [hsa] at hx hy
  simp only [pq, eq_] at hx hy
  have HSA := Hid.mk' hsa
  have HG0 := Hid.mk' g0
  have hs1 : (w.alloc (.cells #[.int .i64 k, .int .i64 A, .int .i64 Bq, .int .i64 N, .int .i64 M, .slice pp pn pc, .slice sq sn sc, .int .i64 s0, .int .i64 s1, .int .i64 s2, .int .i64 s3] 75)).heap.size = w.heap.size + 1 := by simp
  obtain ⟨c0, c1, c2, c3, c4⟩ := op_cells hQ
  obtain ⟨c5, c6, c7, c8, c9, c10⟩ := op_cells2 hQ
  clear h g0 hsa
  go_enter Try.func38, Try.ntmps38
  go_wp2
  obtain ⟨w1, hw1⟩ : ∃ w1, w1 = w.alloc (.cells #[.int .i64 k, .int .i64 A, .int .i64 Bq, .int .i64 N, .int .i64 M, .slice pp pn pc, .slice sq sn sc, .int .i64 s0, .int .i64 s1, .int .i64 s2, .int .i64 s3] 75) := ⟨_, rfl⟩
  obtain ⟨Q, hQe⟩ : ∃ Q, Q = w.heap.size := ⟨_, rfl⟩
  rw [← hw1] at hQ H1 HG0 hx hy hs1 c0 c1 c2 c3 c4 c5 c6 c7 c8 c9 c10 ⊢
  rw [← hQe] at hQ hs1 c0 c1 c2 c3 c4 c5 c6 c7 c8 c9 c10 ⊢
  have HQ := Hid.mk' hQ
  have HQE := Hid.mk' (And.intro hQe hs1)
  have hPQ : P < Q := by omega
  have hQ1 : Q < w1.heap.size := by omega
  clear hw1 hQe hQ hs1 hPl
  go_quiet (fail)
  go_wp2
  go_quiet (fail)
  go_wp2
  go_ret
  exact ⟨rfl, _, H1.out.drewN _⟩


set_option maxHeartbeats 4000000 in
set_option maxRecDepth 20000 in
theorem pools_take {w0 : World} {B P : Nat} {st : Nat → Option PSlot} {w : World} (h : PPlay w0 B P st w) (A Bq N M : Int) (pp : Option Addr) (pn pc : Nat) (sq : Option Addr) (sn sc : Nat) (s0 s1 s2 s3 : Int) (a : Nat) (ha : a < 4) (hA : bits .and .i64 A 3 = (a : Int)) (s : PSlot) (hsa : st a = some s) :
    Calls Try.prog 38 #[.pointer (some ⟨P, 0, none⟩), .agg #[.int .i64 12, .int .i64 A, .int .i64 Bq, .int .i64 N, .int .i64 M, .slice pp pn pc, .slice sq sn sc, .int .i64 s0, .int .i64 s1, .int .i64 s2, .int .i64 s3]] w fun r w' => r = .returned (.bool true) ∧ ∃ st', PPlay w0 B P st' w' := by
  have ha4 : (a : Int) < 4 := by omega
  have ha0 : (0 : Int) ≤ (a : Int) := by omega
  have hQ := (MapKept.heap_alloc w (.cells #[.int .i64 12, .int .i64 A, .int .i64 Bq, .int .i64 N, .int .i64 M, .slice pp pn pc, .slice sq sn sc, .int .i64 s0, .int .i64 s1, .int .i64 s2, .int .i64 s3] 75)).1
  have g0 : Keeps (fun j => w.heap.size ≤ j) w (w.alloc (.cells #[.int .i64 12, .int .i64 A, .int .i64 Bq, .int .i64 N, .int .i64 M, .slice pp pn pc, .slice sq sn sc, .int .i64 s0, .int .i64 s1, .int .i64 s2, .int .i64 s3] 75)) := Keeps.of (World.grownBy_alloc w _ none) (by simp)
  have H1 := Hid.mk' (h.grown g0)
  have hPl := heap_lt h.at_
  have hBl := h.low.1
  have hx := H1.out.cell1 a ha
  have hy := H1.out.cell2 a ha
  rw [hsa] at hx hy
  simp only [pq, eq_] at hx hy
  have HSA := Hid.mk' hsa
  have HG0 := Hid.mk' g0
  have hs1 : (w.alloc (.cells #[.int .i64 12, .int .i64 A, .int .i64 Bq, .int .i64 N, .int .i64 M, .slice pp pn pc, .slice sq sn sc, .int .i64 s0, .int .i64 s1, .int .i64 s2, .int .i64 s3] 75)).heap.size = w.heap.size + 1 := by simp
  obtain ⟨c0, c1, c2, c3, c4⟩ := op_cells hQ
  obtain ⟨c5, c6, c7, c8, c9, c10⟩ := op_cells2 hQ
  clear h g0 hsa
  go_enter Try.func38, Try.ntmps38
  go_wp2
  obtain ⟨w1, hw1⟩ : ∃ w1, w1 = w.alloc (.cells #[.int .i64 12, .int .i64 A, .int .i64 Bq, .int .i64 N, .int .i64 M, .slice pp pn pc, .slice sq sn sc, .int .i64 s0, .int .i64 s1, .int .i64 s2, .int .i64 s3] 75) := ⟨_, rfl⟩
  obtain ⟨Q, hQe⟩ : ∃ Q, Q = w.heap.size := ⟨_, rfl⟩
  rw [← hw1] at hQ H1 HG0 hx hy hs1 c0 c1 c2 c3 c4 c5 c6 c7 c8 c9 c10 ⊢
  rw [← hQe] at hQ hs1 c0 c1 c2 c3 c4 c5 c6 c7 c8 c9 c10 ⊢
  have HQ := Hid.mk' hQ
  have HQE := Hid.mk' (And.intro hQe hs1)
  have hPQ : P < Q := by omega
  have hQ1 : Q < w1.heap.size := by omega
  clear hw1 hQe hQ hs1 hPl
  go_quiet (fail)
  go_wp2
  go_quiet (fail)
  obtain ⟨b1, r1⟩ := H1.out.two a s ha HSA.out
  have hin := fun m => take_any (w1.drewN m) s.d s.sh s.S (b1.kept (Keeps.drewN (fun _ => False) _ m) (by simp)) N M
  have hLl := tkR_len b1.good b1.sup N M
  have HB1 := Hid.mk' b1
  have HR1 := Hid.mk' r1
  have HRT : Hid (∀ wx, RpAt wx s.e s.v s.sh s.S → Calls Try.prog 59 #[.pointer (some ⟨s.e, 0, none⟩), .int .i64 N, .int .i64 M] wx fun r w' => ∃ x, r = .returned (.tuple #[x, .int .i64 (tkR s.sh s.S N M).2.1]) ∧ SpAt w' wx.heap.size x (tkR s.sh s.S N M).1 ∧ RpAt w' s.e s.v s.sh (tkR s.sh s.S N M).2.2 ∧ Keeps (fun k => s.v.ownBlock = some k ∨ wx.heap.size ≤ k) wx w') := fun wx hx => rtake_any wx s.e s.v s.sh s.S hx N M
  generalize (tkR s.sh s.S N M).1 = L at *
  generalize (tkR s.sh s.S N M).2.1 = E at *
  generalize (tkR s.sh s.S N M).2.2 = S' at *
  clear b1 r1 hx hy c1 c2 c5 c6 c7 c8 c9 c10
  go_wp2_with (first
    | (go_at_call 17; refine (hin _).mono ?_; clear hin; rintro r w2 ⟨x2, rfl, hy2, hp2, hx2⟩
       have hK2 : Keeps (fun j => j = s.d ∨ w1.heap.size ≤ j) w1 w2 := (Keeps.drewN _ w1 0).trans ⟨hx2.os, hx2.tape, hx2.output, hx2.size, hx2.block⟩
       have hnd : ¬ (Q = s.d ∨ w1.heap.size ≤ Q) := by
         rintro (e | e)
         · exact ne_type HQ.out HB1.out.at_ (by decide) e
         · omega
       obtain ⟨z0, z1, z2, z3, z4⟩ := op_cells (hK2.at HQ.out hnd)
       have hr2 := HR1.out.kept hK2 (fun e => by
         rcases e with e | e
         · exact ne_type HR1.out.at_ HB1.out.at_ (by decide) e
         · have := heap_lt HR1.out.at_; omega) (fun g hg e => by
         obtain ⟨cur, hc⟩ := own_cells HR1.out.row hg
         rcases e with e | e
         · exact ne_type hc HB1.out.at_ (by decide) e
         · have := heap_lt hc; omega)
       have hrt := HRT.out w2 hr2
       have hsz2 := hK2.size
       obtain ⟨p2, cp2, rfl⟩ := hy2.eq_slice
       have HX2 := Hid.mk' (And.intro hK2 (And.intro hp2 (And.intro hy2 hr2)))
       clear hx2 hK2 hp2 hy2 hr2 z0 z1 z2 hnd)
    | (go_at_call 59; refine hrt.mono ?_; clear hrt; rintro r w3 ⟨x3, rfl, hy3, hr3, hx3⟩
       obtain ⟨p3, cp3, rfl⟩ := hy3.eq_slice
       have hs2 : SpAt w3 w1.heap.size (.slice p2 L.length cp2) L := HX2.out.2.2.1.kept hx3 (fun g hg e => by
         rcases e with e | e
         · obtain ⟨cur, hc⟩ := own_cells HX2.out.2.2.1 hg
           obtain ⟨cur2, hc2⟩ := own_cells HX2.out.2.2.2.row e
           exact ne_type hc hc2 (by decide) rfl
         · have := (HX2.out.2.2.1.lt g hg).2; omega)
       have hp3 := HX2.out.2.1.kept hx3 (fun e => by
         rcases e with e | e
         · obtain ⟨cur2, hc2⟩ := own_cells HX2.out.2.2.2.row e
           exact ne_type HX2.out.2.1.at_ hc2 (by decide) rfl
         · have := heap_lt HX2.out.2.1.at_; omega)
       have hsm := sameSpans_yes w3 p2 p3 cp2 cp3 L (by obtain ⟨_, _, h0, hi, _⟩ := hs2.toIn; cases h0; exact hi) (by obtain ⟨_, _, h0, hi, _⟩ := hy3.toIn; cases h0; exact hi) (by omega)
       have hT := H1.out.turn (w' := w3) ha HSA.out S' hp3 hr3 ((HX2.out.1.mono (fun j _ hj => by rcases hj with hj | hj; exact Or.inl (Or.inl hj); exact Or.inr hj)).then hx3 (fun j hj => by
         rcases hj with hj | hj
         · left; left; right; exact hj
         · left; right; omega))
       have HT := Hid.mk' hT
       clear hs2 hy3 hr3 hx3 hp3 hT)
    | (go_at_call 18; refine hsm.mono ?_; clear hsm; rintro r w4 ⟨rfl, m4, hw4⟩; subst w4))
  go_ret
  exact ⟨ret_bool (by simp), _, HT.out.drewN _⟩


set_option maxHeartbeats 4000000 in
set_option maxRecDepth 20000 in
theorem pools_looks {w0 : World} {B P : Nat} {st : Nat → Option PSlot} {w : World} (h : PPlay w0 B P st w) (A Bq N M : Int) (k : Int) (pp : Option Addr) (pn pc : Nat) (sq : Option Addr) (sn sc : Nat) (s0 s1 s2 s3 : Int) (hk : 14 ≤ k ∧ k ≤ 18) (hk1 : (k == 11) = false) (hk2 : (k == 19) = false) (hk3 : (k == 12) = false) (hk4 : (k == 13) = false) (a : Nat) (ha : a < 4) (hA : bits .and .i64 A 3 = (a : Int)) (s : PSlot) (hsa : st a = some s) :
    Calls Try.prog 38 #[.pointer (some ⟨P, 0, none⟩), .agg #[.int .i64 k, .int .i64 A, .int .i64 Bq, .int .i64 N, .int .i64 M, .slice pp pn pc, .slice sq sn sc, .int .i64 s0, .int .i64 s1, .int .i64 s2, .int .i64 s3]] w fun r w' => r = .returned (.bool true) ∧ ∃ st', PPlay w0 B P st' w' := by
  have ha4 : (a : Int) < 4 := by omega
  have ha0 : (0 : Int) ≤ (a : Int) := by omega
  have hQ := (MapKept.heap_alloc w (.cells #[.int .i64 k, .int .i64 A, .int .i64 Bq, .int .i64 N, .int .i64 M, .slice pp pn pc, .slice sq sn sc, .int .i64 s0, .int .i64 s1, .int .i64 s2, .int .i64 s3] 75)).1
  have g0 : Keeps (fun j => w.heap.size ≤ j) w (w.alloc (.cells #[.int .i64 k, .int .i64 A, .int .i64 Bq, .int .i64 N, .int .i64 M, .slice pp pn pc, .slice sq sn sc, .int .i64 s0, .int .i64 s1, .int .i64 s2, .int .i64 s3] 75)) := Keeps.of (World.grownBy_alloc w _ none) (by simp)
  have H1 := Hid.mk' (h.grown g0)
  have hPl := heap_lt h.at_
  have hBl := h.low.1
  have hx := H1.out.cell1 a ha
  have hy := H1.out.cell2 a ha
  rw [hsa] at hx hy
  simp only [pq, eq_] at hx hy
  have HSA := Hid.mk' hsa
  have HG0 := Hid.mk' g0
  have hs1 : (w.alloc (.cells #[.int .i64 k, .int .i64 A, .int .i64 Bq, .int .i64 N, .int .i64 M, .slice pp pn pc, .slice sq sn sc, .int .i64 s0, .int .i64 s1, .int .i64 s2, .int .i64 s3] 75)).heap.size = w.heap.size + 1 := by simp
  obtain ⟨c0, c1, c2, c3, c4⟩ := op_cells hQ
  obtain ⟨c5, c6, c7, c8, c9, c10⟩ := op_cells2 hQ
  clear h g0 hsa
  go_enter Try.func38, Try.ntmps38
  go_wp2
  obtain ⟨w1, hw1⟩ : ∃ w1, w1 = w.alloc (.cells #[.int .i64 k, .int .i64 A, .int .i64 Bq, .int .i64 N, .int .i64 M, .slice pp pn pc, .slice sq sn sc, .int .i64 s0, .int .i64 s1, .int .i64 s2, .int .i64 s3] 75) := ⟨_, rfl⟩
  obtain ⟨Q, hQe⟩ : ∃ Q, Q = w.heap.size := ⟨_, rfl⟩
  rw [← hw1] at hQ H1 HG0 hx hy hs1 c0 c1 c2 c3 c4 c5 c6 c7 c8 c9 c10 ⊢
  rw [← hQe] at hQ hs1 c0 c1 c2 c3 c4 c5 c6 c7 c8 c9 c10 ⊢
  have HQ := Hid.mk' hQ
  have HQE := Hid.mk' (And.intro hQe hs1)
  have hPQ : P < Q := by omega
  have hQ1 : Q < w1.heap.size := by omega
  clear hw1 hQe hQ hs1 hPl
  go_quiet (fail)
  go_wp2
  go_quiet (fail)
  obtain ⟨b1, r1⟩ := H1.out.two a s ha HSA.out
  have hlk := fun m => looks_any (b1.kept (Keeps.drewN (fun _ => False) w1 m) (by simp)) (r1.drewN m) k A Bq N M pp pn pc sq sn sc s0 s1 s2 s3 hk
  clear b1 r1 hx hy
  go_wp2_with (first
    | (go_at_call 63; refine (hlk _).mono ?_; clear hlk; rintro r w2 ⟨rfl, hx2⟩
       have hK2 : Keeps (fun j => w1.heap.size ≤ j) w1 w2 := (Keeps.drewN _ w1 0).trans ⟨hx2.os, hx2.tape, hx2.output, hx2.size, hx2.block⟩
       have HT := Hid.mk' (H1.out.grown hK2)
       clear hx2 hK2))
  go_ret
  exact ⟨rfl, _, HT.out⟩


theorem IntIn.lt_kept {w w' : World} {p : Option Addr} {l : List Int} {X : Nat → Prop} (h : IntIn w p l) (k : Keeps X w w') (hX : 0 < l.length → ∀ b, p.map (·.block) = some b → b < w.heap.size → ¬ X b) : IntIn w' p l := by
  intro h0
  obtain ⟨b, o, e, hb, hc⟩ := h h0
  have hn : ¬ X b := hX h0 b (by rw [e]; rfl) hb
  exact ⟨b, o, e, Nat.lt_of_lt_of_le hb k.size, fun i hi => k.cell (hc i hi) hn⟩

set_option maxHeartbeats 4000000 in
set_option maxRecDepth 20000 in
theorem pools_give {w0 : World} {B P : Nat} {st : Nat → Option PSlot} {w : World} (h : PPlay w0 B P st w) (A Bq N M : Int) (pp : Option Addr) (pc : Nat) (l : List Int) (sq : Option Addr) (sn sc : Nat) (s0 s1 s2 s3 : Int) (hin : IntIn w pp l) (hlow : 0 < l.length → ∀ b, pp.map (·.block) = some b → b < B) (hll : l.length ≤ maxLen) (hlw : l.length * 8 ≤ 140737488355328) (a : Nat) (ha : a < 4) (hA : bits .and .i64 A 3 = (a : Int)) (s : PSlot) (hsa : st a = some s) :
    Calls Try.prog 38 #[.pointer (some ⟨P, 0, none⟩), .agg #[.int .i64 13, .int .i64 A, .int .i64 Bq, .int .i64 N, .int .i64 M, .slice pp l.length pc, .slice sq sn sc, .int .i64 s0, .int .i64 s1, .int .i64 s2, .int .i64 s3]] w fun r w' => r = .returned (.bool true) ∧ ∃ st', PPlay w0 B P st' w' := by
  have ha4 : (a : Int) < 4 := by omega
  have ha0 : (0 : Int) ≤ (a : Int) := by omega
  have hQ := (MapKept.heap_alloc w (.cells #[.int .i64 13, .int .i64 A, .int .i64 Bq, .int .i64 N, .int .i64 M, .slice pp l.length pc, .slice sq sn sc, .int .i64 s0, .int .i64 s1, .int .i64 s2, .int .i64 s3] 75)).1
  have g0 : Keeps (fun j => w.heap.size ≤ j) w (w.alloc (.cells #[.int .i64 13, .int .i64 A, .int .i64 Bq, .int .i64 N, .int .i64 M, .slice pp l.length pc, .slice sq sn sc, .int .i64 s0, .int .i64 s1, .int .i64 s2, .int .i64 s3] 75)) := Keeps.of (World.grownBy_alloc w _ none) (by simp)
  have H1 := Hid.mk' (h.grown g0)
  have hPl := heap_lt h.at_
  have hBl := h.low.1
  have hx := H1.out.cell1 a ha
  have hy := H1.out.cell2 a ha
  rw [hsa] at hx hy
  simp only [pq, eq_] at hx hy
  have HSA := Hid.mk' hsa
  have HG0 := Hid.mk' g0
  have hs1 : (w.alloc (.cells #[.int .i64 13, .int .i64 A, .int .i64 Bq, .int .i64 N, .int .i64 M, .slice pp l.length pc, .slice sq sn sc, .int .i64 s0, .int .i64 s1, .int .i64 s2, .int .i64 s3] 75)).heap.size = w.heap.size + 1 := by simp
  obtain ⟨c0, c1, c2, c3, c4⟩ := op_cells hQ
  obtain ⟨c5, c6, c7, c8, c9, c10⟩ := op_cells2 hQ
  clear h g0 hsa
  go_enter Try.func38, Try.ntmps38
  go_wp2
  obtain ⟨w1, hw1⟩ : ∃ w1, w1 = w.alloc (.cells #[.int .i64 13, .int .i64 A, .int .i64 Bq, .int .i64 N, .int .i64 M, .slice pp l.length pc, .slice sq sn sc, .int .i64 s0, .int .i64 s1, .int .i64 s2, .int .i64 s3] 75) := ⟨_, rfl⟩
  obtain ⟨Q, hQe⟩ : ∃ Q, Q = w.heap.size := ⟨_, rfl⟩
  rw [← hw1] at hQ H1 HG0 hx hy hs1 c0 c1 c2 c3 c4 c5 c6 c7 c8 c9 c10 ⊢
  rw [← hQe] at hQ hs1 c0 c1 c2 c3 c4 c5 c6 c7 c8 c9 c10 ⊢
  have HQ := Hid.mk' hQ
  have HQE := Hid.mk' (And.intro hQe hs1)
  have hPQ : P < Q := by omega
  have hQ1 : Q < w1.heap.size := by omega
  clear hw1 hQe hQ hs1 hPl
  go_quiet (fail)
  go_wp2
  go_quiet (fail)
  obtain ⟨b1, r1⟩ := H1.out.two a s ha HSA.out
  have hin1 := hin.lt_kept HG0.out (fun _ b _ hbl hx => by omega)
  have hlo1 := hlow
  have hcp := fun m => copyIntsI (w1.drewN m) pp pc l (hin1.kept (Keeps.drewN (fun _ => False) _ m) (by simp)) hll hlw
  have HB1 := Hid.mk' b1
  have HR1 := Hid.mk' r1
  have HIN := Hid.mk' hin1
  have HGV : Hid (∀ wx, PoolAt wx s.d s.sh s.S → IntIn wx pp l → Calls Try.prog 21 #[.pointer (some ⟨s.d, 0, none⟩), .slice pp l.length pc] wx fun r w' => r = .returned (.int .i64 (gvR s.sh s.S l).1) ∧ PoolAt w' s.d s.sh (gvR s.sh s.S l).2 ∧ Keeps (fun k => k = s.d ∨ wx.heap.size ≤ k) wx w') := fun wx h1 h2 => give_any wx s.d s.sh s.S h1 pp pc l h2 hll
  have HRV : Hid (∀ wx q c, RpAt wx s.e s.v s.sh s.S → IntIn wx q l → (∀ b, q.map (·.block) = some b → s.v.ownBlock ≠ some b) → Calls Try.prog 61 #[.pointer (some ⟨s.e, 0, none⟩), .slice q l.length c] wx fun r w' => r = .returned (.int .i64 (gvR s.sh s.S l).1) ∧ RpAt w' s.e s.v s.sh (gvR s.sh s.S l).2 ∧ Keeps (fun k => s.v.ownBlock = some k ∨ wx.heap.size ≤ k) wx w') := fun wx q c h1 h2 h3 => rgive_any wx s.e s.v s.sh s.S h1 q c l h2 h3 hll
  generalize (gvR s.sh s.S l).1 = E at *
  generalize (gvR s.sh s.S l).2 = S' at *
  have HLO := Hid.mk' hlo1
  have HLW := Hid.mk' (H1.out.low.2 a s ha HSA.out)
  clear b1 r1 hx hy c1 c2 c3 c4 c6 c7 c8 c9 c10 hin hin1 hlow hlo1
  go_wp2_with (first
    | (go_at_call 60; refine (hcp _).mono ?_; clear hcp; rintro r w2 ⟨q2, cq2, rfl, hi2, hq2, hx2⟩
       have hK2 : Keeps (fun j => w1.heap.size ≤ j) w1 w2 := (Keeps.drewN _ w1 0).trans ⟨hx2.os, hx2.tape, hx2.output, hx2.size, hx2.block⟩
       have hq2' : ∀ b, q2.map (·.block) = some b → w1.heap.size ≤ b := hq2
       have d0 := (op_cells (hK2.at HQ.out (by omega))).1
       have d5 := (op_cells2 (hK2.at HQ.out (by omega))).1
       have hp2 := HB1.out.kept hK2 (by have := heap_lt HB1.out.at_; omega)
       have hii2 := HIN.out.lt_kept hK2 (fun _ b _ hbl hx => by omega)
       have hgv := HGV.out w2 hp2 hii2
       have hsz2 := hK2.size
       have HX2 := Hid.mk' (And.intro hK2 (And.intro hp2 (And.intro hii2 (And.intro hi2 hq2'))))
       clear hx2 hK2 hp2 hii2 hi2 hq2 hq2')
    | (go_at_call 21; refine hgv.mono ?_; clear hgv; rintro r w3 ⟨rfl, hp3, hx3⟩
       have hX := HX2.out
       have hQ2 := hX.1.at HQ.out (by omega)
       have hQ3 := hx3.at hQ2 (fun e => by
         rcases e with e | e
         · exact ne_type hQ2 hX.2.1.at_ (by decide) e
         · omega)
       have f5 := (op_cells2 hQ3).1
       have hr2 := HR1.out.grown hX.1
       have hr3 := hr2.kept hx3 (fun e => by
         rcases e with e | e
         · exact ne_type hr2.at_ hX.2.1.at_ (by decide) e
         · have := heap_lt hr2.at_; omega) (fun g hg e => by
         obtain ⟨cur, hc⟩ := own_cells hr2.row hg
         rcases e with e | e
         · exact ne_type hc hX.2.1.at_ (by decide) e
         · have := heap_lt hc; omega)
       have hdl := heap_lt HB1.out.at_
       have hi3 : IntIn w3 q2 l := hX.2.2.2.1.lt_kept hx3 (fun h0 b hb hbl e => by
         have := hX.2.2.2.2 b hb
         rcases e with e | e <;> omega)
       have hii3 : IntIn w3 pp l := hX.2.2.1.lt_kept hx3 (fun h0 b hb hbl e => by
         have := HLO.out h0 b hb
         have := HLW.out.1
         rcases e with e | e <;> omega)
       have hrv := HRV.out w3 q2 cq2 hr3 hi3 (fun b hb e => by
         have := hX.2.2.2.2 b hb
         have := (HR1.out.row.lt b e).2
         omega)
       have hsz3 := hx3.size
       have HX3 := Hid.mk' (And.intro hx3 (And.intro hp3 (And.intro hr3 (And.intro hi3 (And.intro hii3 hQ3)))))
       clear hX hQ2 hQ3 hr2 hr3 hi3 hii3 hx3 hp3 hdl)
    | (go_at_call 61; refine hrv.mono ?_; clear hrv; rintro r w4 ⟨rfl, hr4, hx4⟩
       have hX := HX3.out
       have hnQ : ¬ (s.v.ownBlock = some Q ∨ w3.heap.size ≤ Q) := by
         rintro (e | e)
         · obtain ⟨cur, hc⟩ := own_cells hX.2.2.1.row e
           exact ne_type hX.2.2.2.2.2 hc (by decide) rfl
         · omega
       have e5 := (op_cells2 (hx4.at hX.2.2.2.2.2 hnQ)).1
       have hp4 := hX.2.1.kept hx4 (fun e => by
         rcases e with e | e
         · obtain ⟨cur, hc⟩ := own_cells hX.2.2.1.row e
           exact ne_type hX.2.1.at_ hc (by decide) rfl
         · have := heap_lt hX.2.1.at_; omega)
       have hi4 : IntIn w4 q2 l := hX.2.2.2.1.lt_kept hx4 (fun h0 b hb hbl e => by
         have := HX2.out.2.2.2.2 b hb
         rcases e with e | e
         · have := (HR1.out.row.lt b e).2; omega
         · omega)
       have hii4 : IntIn w4 pp l := hX.2.2.2.2.1.lt_kept hx4 (fun h0 b hb hbl e => by
         have := HLO.out h0 b hb
         rcases e with e | e
         · have := HLW.out.2 b e; omega
         · omega)
       have hsm := sameIntsI w4 pp q2 pc cq2 l hii4 hi4 hll
       have hT := H1.out.turn (w' := w4) ha HSA.out S' hp4 hr4 (((HX2.out.1.mono (fun j _ hj => Or.inr hj)).then hX.1 (fun j hj => by
         rcases hj with hj | hj
         · left; left; left; exact hj
         · left; right; omega)).then hx4 (fun j hj => by
         rcases hj with hj | hj
         · left; left; right; exact hj
         · left; right; omega))
       have HT := Hid.mk' hT
       clear hX hnQ hp4 hi4 hii4 hr4 hx4 hT)
    | (go_at_call 62; refine hsm.mono ?_; clear hsm; rintro r w5 ⟨rfl, m5, hw5⟩; subst w5))
  go_ret
  exact ⟨ret_bool (by simp), _, HT.out.drewN _⟩


end Go.Proofs.Ytnafocbgapianab
