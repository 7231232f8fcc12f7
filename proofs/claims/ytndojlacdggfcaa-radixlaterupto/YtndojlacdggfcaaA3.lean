import Derived.Test.YtndojlacdggfcaaA2
import Derived.Deep.RegionHeld3
namespace Go.Proofs.Ytndojlacdggfcaa
open Go.RowKit

theorem pow_le (k : Nat) (hk : k ≤ 3) : 8 ^ k ≤ 512 := Nat.pow_le_pow_right (n := 8) (by decide) hk
theorem pow_div (k : Nat) : ((8 ^ (k + 1) : Nat) : Int).tdiv 8 = ((8 ^ k : Nat) : Int) := by
  rw [Int.tdiv_eq_ediv_of_nonneg (Int.natCast_nonneg _), Nat.pow_succ, Int.natCast_mul]
  exact Int.mul_ediv_cancel _ (by decide)
theorem cells2' {w : World} {R : Nat} {a b : Value} {t : TypeId} (h : w.heap[R]? = some (.cells #[a, b] t (0, 0))) :
    w.cell? ⟨R, 0, none⟩ = some a ∧ w.cell? ⟨R, 1, none⟩ = some b ∧ (∀ i, w.frozen? ⟨R, i, none⟩ = false) := by
  simp [World.cell?, World.frozen?, h]
theorem Keeps.new (w : World) (o : Obj) : Keeps (fun _ => False) w (w.alloc o) := Keeps.of (World.grownBy_alloc w _ none) (by simp)
theorem Keeps.none_nodes {A B : World} (h : Keeps (fun _ => False) A B) : KeepN A B := h.nodes (fun _ _ _ h => h.elim)

set_option maxRecDepth 100000 in
set_option maxHeartbeats 1000000 in
theorem at_any (k : Nat) : ∀ (p : Option Addr) (v : Int) (f : Nat → Int) (off : Nat) (w : World) (X : Nat → Prop), k ≤ 3 → SlotAt w X k p v f → off < 8 ^ k →
    Calls Try.prog 37 #[.agg #[.pointer p, .int .i64 v], .int .i64 ((8 ^ k : Nat) : Int), .int .i64 off] w fun e w' => e = .returned (.int .i64 (f off)) ∧ Keeps (fun _ => False) w w' := by
  induction k with
  | zero =>
    intro p v f off w X _ hs ho
    obtain ⟨rfl, rfl⟩ := hs
    obtain rfl : off = 0 := by simpa using ho
    have hK : Keeps (fun _ => False) w (w.alloc (.cells #[.pointer none, .int .i64 (f 0)] 71)) := Keeps.of (World.grownBy_alloc w _ none) (by simp)
    go_enter Try.func37, Try.ntmps37
    go_wp2_with fail
    go_ret
    exact ⟨rfl, hK⟩
  | succ k ih =>
    intro p v f off w X hk hs ho
    obtain ⟨rfl, ⟨rfl, hz⟩ | ⟨b, q, u, rfl, _, hn, hs⟩⟩ := hs
    · have hK : Keeps (fun _ => False) w (w.alloc (.cells #[.pointer none, .int .i64 0] 71)) := Keeps.of (World.grownBy_alloc w _ none) (by simp)
      have hz' := Hid.mk' (hz off ho)
      clear hz ih ho
      go_enter Try.func37, Try.ntmps37
      go_wp2_with fail
      go_ret
      exact ⟨ret_int (show (0 : Int) = _ from hz'.symm), hK⟩
    · have hp0 := pow_le k (by omega)
      have hd := pow_div k
      obtain ⟨R, hR⟩ : ∃ R, 8 ^ k = R := ⟨_, rfl⟩
      obtain ⟨R8, hR8⟩ : ∃ R, 8 ^ (k + 1) = R := ⟨_, rfl⟩
      have e8 : R8 = R * 8 := by rw [← hR8, Nat.pow_succ, hR]
      rw [hR] at hp0 hd
      rw [hR8] at hd ho ⊢
      have hR1 : 1 ≤ R := by rw [← hR]; exact Nat.pow_pos (by decide)
      have hq : (off : Int).tdiv (R : Int) = ((off / R : Nat) : Int) := by rw [Int.tdiv_eq_ediv_of_nonneg (by omega)]; rfl
      have hm : (off : Int).tmod (R : Int) = ((off % R : Nat) : Int) := by rw [Int.tmod_eq_emod_of_nonneg (by omega)]; rfl
      have hi : off / R < 8 := by rw [Nat.div_lt_iff_lt_mul (by omega)]; omega
      have hml : off % R < R := Nat.mod_lt _ (by omega)
      have hfo : f (off / R * R + off % R) = f off := by rw [Nat.div_add_mod']
      obtain ⟨i, hi0⟩ : ∃ i, off / R = i := ⟨_, rfl⟩
      obtain ⟨m, hm0⟩ : ∃ m, off % R = m := ⟨_, rfl⟩
      rw [hi0] at hq hi hfo
      rw [hm0] at hm hml hfo
      have hK := Keeps.new w (.cells #[.pointer (some ⟨b, 0, none⟩), .int .i64 0] 71)
      have hB := (MapKept.heap_alloc w (.cells #[.pointer (some ⟨b, 0, none⟩), .int .i64 0] 71)).1
      obtain ⟨b0, b1, _⟩ := cells2' hB
      have hn1 : NodeAt (w.alloc (.cells #[.pointer (some ⟨b, 0, none⟩), .int .i64 0] 71)) b q u := hK.none_nodes _ _ _ hn
      obtain ⟨n0, n1⟩ := node_cell hn1 i hi
      have hc : ∀ n, Calls Try.prog 37 #[.agg #[.pointer (q i), .int .i64 (u i)], .int .i64 (R : Int), .int .i64 (m : Int)] ((w.alloc (.cells #[.pointer (some ⟨b, 0, none⟩), .int .i64 0] 71)).drewN n)
          fun e w' => e = .returned (.int .i64 (f off)) ∧ Hid (Keeps (fun _ => False) w w') ∧ w'.cell? ⟨w.heap.size, 0, none⟩ = some (.pointer (some ⟨b, 0, none⟩)) ∧ w'.cell? ⟨b, i * 2, none⟩ = some (.pointer (q i)) ∧ w'.cell? ⟨b, i * 2 + 1, none⟩ = some (.int .i64 (u i)) := fun n => by
        have h1 : SlotAt ((w.alloc (.cells #[.pointer (some ⟨b, 0, none⟩), .int .i64 0] 71)).drewN n) X k (q i) (u i) (fun o => f (i * 8 ^ k + o)) := (hs i hi).keep (hK.trans (Keeps.drewN _ _ n)).none_nodes
        have := ih (q i) (u i) _ m _ X (by omega) h1 (by rw [hR]; exact hml)
        rw [hR] at this
        refine this.mono fun e w' ⟨he, hk'⟩ => ⟨by rw [he, hfo], (hK.trans (Keeps.drewN _ _ n)).trans hk', hk'.cell b0 id, hk'.cell n0 id, hk'.cell n1 id⟩
      have hw1 : IntKind.i64.wrap (i : Int) = i := i64_id (by omega) (by omega)
      have hw2 : IntKind.i64.wrap (m : Int) = m := i64_id (by omega) (by omega)
      have hR0 : ¬ (R : Int) = 0 := by omega
      have hRb : ((R : Int) == 0) = false := by simpa using hR0
      have hRn : ¬ R = 0 := by omega
      have hi8 : (i : Int) < 8 := by omega
      have hi0' : (0 : Int) ≤ i := by omega
      clear hs ih hn hn1 hfo hB hR hR8 hi0 hm0 hK
      go_enter Try.func37, Try.ntmps37
      go_wp2_with fail
      go_region_held3 (fun wx => wx.cell? ⟨w.heap.size, 0, none⟩ = some (.pointer (some ⟨b, 0, none⟩)) ∧ wx.cell? ⟨b, i * 2, none⟩ = some (.pointer (q i)) ∧ wx.cell? ⟨b, i * 2 + 1, none⟩ = some (.int .i64 (u i)))
        (first | go_keep)
        (first
          | (go_at_call 37; refine (hc _).mono ?_; rintro e w' ⟨rfl, hk, x0, x1, x2⟩))
      all_goals
        go_wp2
        go_ret
        exact ⟨rfl, hk.out⟩

end Go.Proofs.Ytndojlacdggfcaa
