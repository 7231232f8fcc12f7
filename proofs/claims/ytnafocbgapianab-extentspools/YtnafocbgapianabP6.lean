import Derived.Test.YtnafocbgapianabP5
import Derived.Test.YtnafocbgapianabK0
namespace Go.Proofs.Ytnafocbgapianab
open Go.RowKit

set_option maxHeartbeats 4000000 in
set_option maxRecDepth 20000 in
theorem copy_ss {w0 : World} {B P : Nat} {st : Nat → Option PSlot} {w : World} (h : PPlay w0 B P st w) (A Bq N M : Int) (pp : Option Addr) (pn pc : Nat) (sq : Option Addr) (sn sc : Nat) (s0 s1 s2 s3 : Int) (a b : Nat) (ha : a < 4) (hb : b < 4) (hA : bits .and .i64 A 3 = (a : Int)) (hB : bits .and .i64 Bq 3 = (b : Int)) (s : PSlot) (hsa : st a = some s) :
    Calls Try.prog 58 #[.pointer (some ⟨P, 0, none⟩), .agg #[.int .i64 19, .int .i64 A, .int .i64 Bq, .int .i64 N, .int .i64 M, .slice pp pn pc, .slice sq sn sc, .int .i64 s0, .int .i64 s1, .int .i64 s2, .int .i64 s3]] w fun r w' => r = .returned (.bool true) ∧ ∃ st', PPlay w0 B P st' w' := by
  have ha4 : (a : Int) < 4 := by omega
  have ha0 : (0 : Int) ≤ (a : Int) := by omega
  have hb4 : (b : Int) < 4 := by omega
  have hb0 : (0 : Int) ≤ (b : Int) := by omega
  have hQ := (MapKept.heap_alloc w (.cells #[.int .i64 19, .int .i64 A, .int .i64 Bq, .int .i64 N, .int .i64 M, .slice pp pn pc, .slice sq sn sc, .int .i64 s0, .int .i64 s1, .int .i64 s2, .int .i64 s3] 75)).1
  have g0 : Keeps (fun j => w.heap.size ≤ j) w (w.alloc (.cells #[.int .i64 19, .int .i64 A, .int .i64 Bq, .int .i64 N, .int .i64 M, .slice pp pn pc, .slice sq sn sc, .int .i64 s0, .int .i64 s1, .int .i64 s2, .int .i64 s3] 75)) := Keeps.of (World.grownBy_alloc w _ none) (by simp)
  have H1 := Hid.mk' (h.grown g0)
  have hPl := heap_lt h.at_
  have hs1 : (w.alloc (.cells #[.int .i64 19, .int .i64 A, .int .i64 Bq, .int .i64 N, .int .i64 M, .slice pp pn pc, .slice sq sn sc, .int .i64 s0, .int .i64 s1, .int .i64 s2, .int .i64 s3] 75)).heap.size = w.heap.size + 1 := by simp
  have hxa := H1.out.cell1 a ha
  have hya := H1.out.cell2 a ha
  have hxb := H1.out.cell1 b hb
  have hyb := H1.out.cell2 b hb
  obtain ⟨c0, c1, c2, c3, c4⟩ := op_cells hQ
  rw [hsa] at hxa hya
  simp only [pq, eq_] at hxa hya
  have HSA := Hid.mk' hsa
  clear hsa
  clear h g0
  go_enter Try.func58, Try.ntmps58
  go_wp2
  obtain ⟨w1, hw1⟩ : ∃ w1, w1 = w.alloc (.cells #[.int .i64 19, .int .i64 A, .int .i64 Bq, .int .i64 N, .int .i64 M, .slice pp pn pc, .slice sq sn sc, .int .i64 s0, .int .i64 s1, .int .i64 s2, .int .i64 s3] 75) := ⟨_, rfl⟩
  obtain ⟨Q, hQe⟩ : ∃ Q, Q = w.heap.size := ⟨_, rfl⟩
  rw [← hw1] at hQ H1 hs1 hxa hya hxb hyb c0 c1 c2 c3 c4 ⊢
  rw [← hQe] at hQ hs1 c0 c1 c2 c3 c4 ⊢
  have hPQ : P < Q := by omega
  have hP1 : P < w1.heap.size := by omega
  obtain ⟨b1, r1⟩ := H1.out.two a s ha HSA.out
  have hcp := fun m => copy_any (w1.drewN m) s.d s.sh s.S (b1.kept (Keeps.drewN (fun _ => False) _ m) (by simp))
  have HR1 := Hid.mk' r1
  have hzb := H1.out.frozen (8 + b)
  clear hw1 hQe hQ b1 r1 hPl
  go_region_with ((go_at_call 32; refine (hcp _).mono ?_; clear hcp; rintro r w2 ⟨dq, rfl, hd2, hp2, hx2⟩
                   have hK2 : Keeps (fun j => w1.heap.size ≤ j) w1 w2 := (Keeps.drewN _ w1 0).trans ⟨hx2.os, hx2.tape, hx2.output, hx2.size, hx2.block⟩
                   have hd2' : w1.heap.size ≤ dq := hd2
                   have hm2 := H1.out.grown hK2
                   have u1 := hm2.cell1 b hb
                   have u2 := hm2.frozen (8 + b)
                   have HX2 := Hid.mk' (And.intro hK2 (And.intro hd2' (And.intro hp2 hm2)))
                   clear hx2 hK2 hd2 hd2' hp2 hm2))
  go_wp2
  have hset3 := setCell_block (a := ⟨P, 8 + b, none⟩) (v := .pointer (some ⟨dq, 0, none⟩)) HX2.out.2.2.2.at_ rfl
  simp only at hset3
  rw [mkPlayP_set1 _ _ b _ hb] at hset3
  have hkp3 := keep_set' w2 P (8 + b) (.pointer (some ⟨dq, 0, none⟩))
  have hr2 := HR1.out.grown HX2.out.1
  have hr3 := hr2.kept hkp3 (fun e => ne_type hr2.at_ HX2.out.2.2.2.at_ (by decide) e) (fun g hg e => by obtain ⟨cur, hc⟩ := own_cells hr2.row hg; exact ne_type hc HX2.out.2.2.2.at_ (by decide) e)
  have hp3 := HX2.out.2.2.1.kept hkp3 (fun e => ne_type HX2.out.2.2.1.at_ HX2.out.2.2.2.at_ (by decide) e)
  have hK3 : Keeps (fun j => j = P ∨ w1.heap.size ≤ j) w1 (w2.setCell ⟨P, 8 + b, none⟩ (.pointer (some ⟨dq, 0, none⟩))) := (HX2.out.1.mono (fun j _ hj => Or.inr hj)).then hkp3 (fun j hj => Or.inl (Or.inl hj))
  obtain ⟨w3, hw3⟩ : ∃ w3, w3 = w2.setCell ⟨P, 8 + b, none⟩ (.pointer (some ⟨dq, 0, none⟩)) := ⟨_, rfl⟩
  rw [← hw3] at hset3 hkp3 hr3 hp3 hK3 ⊢
  have t1 : w3.cell? ⟨P, 12 + a, none⟩ = some (.pointer (some ⟨s.e, 0, none⟩)) := by
    rw [cell_of_row _ _ (12 + a) _ _ _ hset3]
    have := mkPlayP_get2 (updV (fun a => pq (st a)) b (.pointer (some ⟨dq, 0, none⟩))) (fun a => eq_ (st a)) a ha
    rw [HSA.out] at this
    simpa [eq_] using this
  have hPw3 := heap_lt hset3
  have hrc := fun m => rcopy_any (w3.drewN m) s.e s.v s.sh s.S (hr3.drewN m)
  have hK3s := hK3.size
  have HX3 := Hid.mk' (And.intro hset3 (And.intro hp3 hK3))
  clear hw3 hset3 hkp3 hr2 hr3 hp3 hK3 u1 u2 hxa hya hxb hyb hzb c0 c1 c2 c3 c4
  go_region_with ((go_at_call 71; refine (hrc _).mono ?_; clear hrc; rintro r w4 ⟨e', rfl, he4, v', hv4, hr4, hx4⟩
                   have hK4 : Keeps (fun j => w3.heap.size ≤ j) w3 w4 := (Keeps.drewN _ w3 0).trans ⟨hx4.os, hx4.tape, hx4.output, hx4.size, hx4.block⟩
                   have he4' : w3.heap.size ≤ e' := he4
                   have hv4' : ∀ g, v'.ownBlock = some g → w3.heap.size ≤ g := hv4
                   have hat4 := hK4.at HX3.out.1 (by omega)
                   have u1 : w4.cell? ⟨P, 12 + b, none⟩ = some (eq_ (st b)) := by rw [cell_of_row _ _ (12 + b) _ _ _ hat4]; simpa using mkPlayP_get2 _ _ b hb
                   have u2 : w4.frozen? ⟨P, 12 + b, none⟩ = false := by simp [World.frozen?, hat4]
                   have HX4 := Hid.mk' (And.intro hK4 (And.intro he4' (And.intro hv4' (And.intro hat4 hr4))))
                   clear hx4 hK4 he4 he4' hv4 hv4' hat4 hr4))
  have hset5 := setCell_block (a := ⟨P, 12 + b, none⟩) (v := .pointer (some ⟨e', 0, none⟩)) HX4.out.2.2.2.1 rfl
  simp only at hset5
  rw [mkPlayP_set2 _ _ b _ hb] at hset5
  have hkp5 := keep_set' w4 P (12 + b) (.pointer (some ⟨e', 0, none⟩))
  have HF : Hid (PPlay w0 B P (setSt st b ⟨s.sh, s.S, dq, e', v'⟩) (w4.setCell ⟨P, 12 + b, none⟩ (.pointer (some ⟨e', 0, none⟩)))) := by
    have h4 := HX4.out
    have h3 := HX3.out
    have hdl := HX2.out.2.1
    have hp4 := h3.2.1.kept h4.1 (by have := heap_lt h3.2.1.at_; omega)
    refine H1.out.fresh hb ⟨s.sh, s.S, dq, e', v'⟩ hset5 (hp4.kept hkp5 (by show ¬ dq = P; omega)) (h4.2.2.2.2.kept hkp5 (by show ¬ e' = P; omega) (fun g hg => by have := h4.2.2.1 g hg; show ¬ g = P; omega)) (by show w1.heap.size ≤ dq; omega) (fun g hg => by have := h4.2.2.1 g hg; omega) ?_
    exact (h3.2.2.then h4.1 (fun j hj => by left; right; omega)).then hkp5 (fun j hj => Or.inl (Or.inl hj))
  have cf1 := HF.out.cell1 b hb
  have cf2 := HF.out.cell2 b hb
  rw [setSt_same] at cf1 cf2
  simp only [pq, eq_] at cf1 cf2
  clear hset5 hkp5 u1 u2 t1
  go_wp2
  go_ret
  exact ⟨ret_bool (by simp), _, HF.out⟩


end Go.Proofs.Ytnafocbgapianab
