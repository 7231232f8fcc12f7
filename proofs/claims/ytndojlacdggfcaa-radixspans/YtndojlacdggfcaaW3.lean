import Derived.Test.YtndojlacdggfcaaW2
import Derived.Deep.RegionHeld3
import Derived.Test.YtndojlacdggfcaaA4
namespace Go.Proofs.Ytndojlacdggfcaa
open Go.RowKit

theorem ret_span {a b : Sp} (h : a = b) : Ending.returned (.agg #[.int .i64 a.1, .int .i64 a.2]) = .returned (.agg #[.int .i64 b.1, .int .i64 b.2]) := by rw [h]
theorem cells3' {w : World} {R : Nat} {a b c : Value} {t : TypeId} (h : w.heap[R]? = some (.cells #[a, b, c] t (0, 0))) :
    w.cell? ⟨R, 0, none⟩ = some a ∧ w.cell? ⟨R, 1, none⟩ = some b ∧ w.cell? ⟨R, 2, none⟩ = some c ∧ (∀ i, w.frozen? ⟨R, i, none⟩ = false) := by
  simp [World.cell?, World.frozen?, h]

theorem Keeps.none_nodesP {A B : World} (h : Keeps (fun _ => False) A B) : KeepNP A B := h.nodesP (fun _ _ _ h => h.elim)

set_option maxRecDepth 100000 in
set_option maxHeartbeats 1000000 in
theorem at_anyP (k : Nat) : ∀ (p : Option Addr) (v : Sp) (f : Nat → Sp) (off : Nat) (w : World) (X : Nat → Prop), k ≤ 3 → SlotAtP w X k p v f → off < 8 ^ k →
    Calls Try.prog 38 #[.agg #[.pointer p, .int .i64 v.1, .int .i64 v.2], .int .i64 ((8 ^ k : Nat) : Int), .int .i64 off] w fun e w' => e = .returned (.agg #[.int .i64 (f off).1, .int .i64 (f off).2]) ∧ Keeps (fun _ => False) w w' := by
  induction k with
  | zero =>
    intro p v f off w X _ hs ho
    obtain ⟨rfl, rfl⟩ := hs
    obtain rfl : off = 0 := by simpa using ho
    go_enter Try.func38, Try.ntmps38
    go_wp2_with fail
    refine bodyPost_ret (results_cell_row rfl _ _ (w.heap.size + 1) 42 _ (0, 0) _ rfl (heap_alloc2_new w _ _) Try.underlying42 rfl (by kernel_rfl)) rfl ?_
    exact ⟨rfl, (Keeps.new w _).trans (Keeps.new _ _)⟩
  | succ k ih =>
    intro p v f off w X hk hs ho
    obtain ⟨rfl, ⟨rfl, hz⟩ | ⟨b, q, u, rfl, _, hn, hs⟩⟩ := hs
    · have hz' := Hid.mk' (hz off ho)
      clear hz ih ho
      go_enter Try.func38, Try.ntmps38
      go_wp2_with fail
      refine bodyPost_ret (results_cell_row rfl _ _ (w.heap.size + 1) 42 _ (0, 0) _ rfl (heap_alloc2_new w _ _) Try.underlying42 rfl (by kernel_rfl)) rfl ?_
      exact ⟨ret_span (a := (0, 0)) hz'.symm, (Keeps.new w _).trans (Keeps.new _ _)⟩
    · have hp0 := pow_le k (by omega)
      have hd := pow_div k
      obtain ⟨R, hR⟩ : ∃ R, 8 ^ k = R := ⟨_, rfl⟩
      obtain ⟨R8, hR8⟩ : ∃ R, 8 ^ (k + 1) = R := ⟨_, rfl⟩
      have e8 : R8 = R * 8 := by rw [← hR8, Nat.pow_succ, hR]
      rw [hR] at hp0 hd
      rw [hR8] at hd ho ⊢
      have hR1 : 1 ≤ R := by rw [← hR]; exact Nat.pow_pos (by decide)
      have hq : (off : Int).tdiv (R : Int) = ((off / R : Nat) : Int) := by rw [Int.tdiv_eq_ediv_of_nonneg (by omega)]; rfl
      have hm : (off : Int).tmod (R : Int) = ((off % R : Nat) : Int) := by rw [Int.tmod_eq_emod_of_nonneg (by omega)]; rfl
      have hi : off / R < 8 := by rw [Nat.div_lt_iff_lt_mul (by omega)]; omega
      have hml : off % R < R := Nat.mod_lt _ (by omega)
      have hfo : f (off / R * R + off % R) = f off := by rw [Nat.div_add_mod']
      obtain ⟨i, hi0⟩ : ∃ i, off / R = i := ⟨_, rfl⟩
      obtain ⟨m, hm0⟩ : ∃ m, off % R = m := ⟨_, rfl⟩
      rw [hi0] at hq hi hfo
      rw [hm0] at hm hml hfo
      have hK := (Keeps.new w (.cells #[.pointer (some ⟨b, 0, none⟩), .int .i64 0, .int .i64 0] 79)).trans (Keeps.new _ (.cells #[.int .i64 0, .int .i64 0] 42))
      have hB : ((w.alloc (.cells #[.pointer (some ⟨b, 0, none⟩), .int .i64 0, .int .i64 0] 79)).alloc (.cells #[.int .i64 0, .int .i64 0] 42)).heap[w.heap.size]? = some (.cells #[.pointer (some ⟨b, 0, none⟩), .int .i64 0, .int .i64 0] 79 (0, 0)) := heap_alloc2_old w _ _
      have hRS : ((w.alloc (.cells #[.pointer (some ⟨b, 0, none⟩), .int .i64 0, .int .i64 0] 79)).alloc (.cells #[.int .i64 0, .int .i64 0] 42)).heap[w.heap.size + 1]? = some (.cells #[.int .i64 0, .int .i64 0] 42 (0, 0)) := heap_alloc2_new w _ _
      obtain ⟨b0, b1, b2, _⟩ := cells3' hB
      have hn1 : NodeAtP ((w.alloc (.cells #[.pointer (some ⟨b, 0, none⟩), .int .i64 0, .int .i64 0] 79)).alloc (.cells #[.int .i64 0, .int .i64 0] 42)) b q u := hK.none_nodesP _ _ _ hn
      obtain ⟨n0, n1, n2⟩ := node_cellP hn1 i hi
      have hc : ∀ n, Calls Try.prog 38 #[.agg #[.pointer (q i), .int .i64 (u i).1, .int .i64 (u i).2], .int .i64 (R : Int), .int .i64 (m : Int)] (((w.alloc (.cells #[.pointer (some ⟨b, 0, none⟩), .int .i64 0, .int .i64 0] 79)).alloc (.cells #[.int .i64 0, .int .i64 0] 42)).drewN n)
          fun e w' => e = .returned (.agg #[.int .i64 (f off).1, .int .i64 (f off).2]) ∧ Hid (Keeps (fun _ => False) w w' ∧ w'.heap[w.heap.size + 1]? = some (.cells #[.int .i64 0, .int .i64 0] 42 (0, 0))) ∧ w'.cell? ⟨w.heap.size + 1, 0, none⟩ = some (.int .i64 0) ∧ w'.cell? ⟨w.heap.size + 1, 1, none⟩ = some (.int .i64 0) ∧ w'.frozen? ⟨w.heap.size + 1, 0, none⟩ = false ∧ w'.frozen? ⟨w.heap.size + 1, 1, none⟩ = false ∧ w'.cell? ⟨w.heap.size, 0, none⟩ = some (.pointer (some ⟨b, 0, none⟩)) ∧ w'.cell? ⟨b, i * 3, none⟩ = some (.pointer (q i)) ∧ w'.cell? ⟨b, i * 3 + 1, none⟩ = some (.int .i64 (u i).1) ∧ w'.cell? ⟨b, i * 3 + 2, none⟩ = some (.int .i64 (u i).2) := fun n => by
        have h1 : SlotAtP (((w.alloc (.cells #[.pointer (some ⟨b, 0, none⟩), .int .i64 0, .int .i64 0] 79)).alloc (.cells #[.int .i64 0, .int .i64 0] 42)).drewN n) X k (q i) (u i) (fun o => f (i * 8 ^ k + o)) := (hs i hi).keep (hK.trans (Keeps.drewN _ _ n)).none_nodesP
        have := ih (q i) (u i) _ m _ X (by omega) h1 (by rw [hR]; exact hml)
        rw [hR] at this
        refine this.mono fun e w' ⟨he, hk'⟩ => ⟨by rw [he, hfo], ⟨(hK.trans (Keeps.drewN _ _ n)).trans hk', hk'.at (show (World.drewN _ n).heap[_]? = _ from hRS) id⟩, (cells2' (hk'.at (show (World.drewN _ n).heap[_]? = _ from hRS) id)).1, (cells2' (hk'.at (show (World.drewN _ n).heap[_]? = _ from hRS) id)).2.1, (cells2' (hk'.at (show (World.drewN _ n).heap[_]? = _ from hRS) id)).2.2 0, (cells2' (hk'.at (show (World.drewN _ n).heap[_]? = _ from hRS) id)).2.2 1, hk'.cell b0 id, hk'.cell n0 id, hk'.cell n1 id, hk'.cell n2 id⟩
      have hw1 : IntKind.i64.wrap (i : Int) = i := i64_id (by omega) (by omega)
      have hw2 : IntKind.i64.wrap (m : Int) = m := i64_id (by omega) (by omega)
      have hR0 : ¬ (R : Int) = 0 := by omega
      have hRb : ((R : Int) == 0) = false := by simpa using hR0
      have hRn : ¬ R = 0 := by omega
      have hi8 : (i : Int) < 8 := by omega
      have hi0' : (0 : Int) ≤ i := by omega
      have hbn : ¬ b = w.heap.size + 1 := by have := heap_lt hn; omega
      have hbn' : ¬ w.heap.size + 1 = b := by omega
      clear hs ih hn hn1 hfo hB hRS hR hR8 hi0 hm0 hK
      go_enter Try.func38, Try.ntmps38
      go_wp2_with fail
      go_region_held3 (fun wx => wx.cell? ⟨w.heap.size, 0, none⟩ = some (.pointer (some ⟨b, 0, none⟩)) ∧ wx.cell? ⟨b, i * 3, none⟩ = some (.pointer (q i)) ∧ wx.cell? ⟨b, i * 3 + 1, none⟩ = some (.int .i64 (u i).1) ∧ wx.cell? ⟨b, i * 3 + 2, none⟩ = some (.int .i64 (u i).2))
        (first | go_keep)
        (first
          | (go_at_call 38; refine (hc _).mono ?_; rintro e w' ⟨rfl, hk, r0, r1, rf0, rf1, x0, x1, x2, x3⟩))
      all_goals
        go_wp2
        have hset := set_keeps w' (w.heap.size + 1) 0 1 (.int .i64 (f off).1) (.int .i64 (f off).2)
        refine bodyPost_ret (results_cell_row rfl _ _ (w.heap.size + 1) 42 _ (0, 0) _ rfl (set2b hk.out.2 _ _) Try.underlying42 rfl (by kernel_rfl)) rfl ?_
        exact ⟨rfl, hk.out.1.then hset (by rintro c rfl; right; omega)⟩

end Go.Proofs.Ytndojlacdggfcaa
