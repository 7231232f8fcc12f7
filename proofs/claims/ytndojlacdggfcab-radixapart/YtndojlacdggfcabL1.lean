import Derived.Test.YtndojlacdggfcabJ1
import Derived.Test.YtndojlacdggfcabJ2
import Derived.Test.YtndojlacdggfcabJ3
import Derived.Test.YtndojlacdggfcabJ4
import Derived.Test.YtndojlacdggfcabJ5
import Derived.Test.YtndojlacdggfcabK2
import Derived.Test.YtndojlacdggfcabK3
import Derived.Test.YtndojlacdggfcabK4
namespace Go.Proofs.Ytndojlacdggfcab
open Go.RowKit

theorem PL.keep {w0 A B : World} {b : Nat} (h : PL w0 A b) (hk : Keeps (fun _ => False) A B) : PL w0 B b := by
  obtain ⟨ts, rs, fs, ps, qs, hB, hk0, hb0, hn0⟩ := h
  exact ⟨ts, rs, fs, ps, qs, hB.keep hk, hk0.trans hk, hb0, hn0⟩

set_option maxRecDepth 100000 in
set_option maxHeartbeats 2000000 in
theorem plays_any (w0 w : World) (b : Nat) (kd D off v : Int) (p : Option Addr) (c : Nat) (l : List Rn) (h : PL w0 w b) (hp : RnIn w0 p l) (hl : l.length * 24 ≤ 140737488355328) (hbd : ∀ r ∈ l, bdR r) :
    Calls Try.prog 34 #[.pointer (some ⟨b, 0, none⟩), .agg #[.int .i64 kd, .int .i64 D, .int .i64 off, .int .i64 v, .slice p l.length c]] w fun e w' => e = .returned (.bool true) ∧ PL w0 w' b := by
  have hK := Keeps.new w (.cells #[.int .i64 kd, .int .i64 D, .int .i64 off, .int .i64 v, .slice p l.length c] 68)
  have hP := h.keep hK
  have hbx := (MapKept.heap_alloc w (.cells #[.int .i64 kd, .int .i64 D, .int .i64 off, .int .i64 v, .slice p l.length c] 68)).1
  obtain ⟨W1, hW1⟩ : ∃ W1, w.alloc (.cells #[.int .i64 kd, .int .i64 D, .int .i64 off, .int .i64 v, .slice p l.length c] 68) = W1 := ⟨_, rfl⟩
  rw [hW1] at hP hbx
  have o0 : W1.cell? ⟨w.heap.size, 0, none⟩ = some (.int .i64 kd) := by simp [World.cell?, hbx]
  have o1 : W1.cell? ⟨w.heap.size, 1, none⟩ = some (.int .i64 D) := by simp [World.cell?, hbx]
  have o2 : W1.cell? ⟨w.heap.size, 2, none⟩ = some (.int .i64 off) := by simp [World.cell?, hbx]
  have o3 : W1.cell? ⟨w.heap.size, 3, none⟩ = some (.int .i64 v) := by simp [World.cell?, hbx]
  have o4 : W1.cell? ⟨w.heap.size, 4, none⟩ = some (.slice p l.length c) := by simp [World.cell?, hbx]
  by_cases h1 : 1 ≤ kd
  · by_cases h5 : kd ≤ 5
    · have hA : Calls Try.prog 39 #[.pointer (some ⟨b, 0, none⟩), .agg #[.int .i64 kd, .int .i64 D, .int .i64 off, .int .i64 v, .slice p l.length c]] W1 fun e w' => e = .returned (.bool true) ∧ Hid (PL w0 w' b) := by
        have : kd = 1 ∨ kd = 2 ∨ kd = 3 ∨ kd = 4 ∨ kd = 5 := by omega
        rcases this with rfl | rfl | rfl | rfl | rfl
        · exact asks_set w0 W1 b D off v p l.length c hP
        · exact asks_get w0 W1 b D off v p l.length c hP
        · exact asks_len w0 W1 b D off v p l.length c hP
        · exact asks_cut w0 W1 b D off v p l.length c hP
        · exact asks_runs w0 W1 b D off v p l.length c hP
      clear hbx hK h
      go_enter Try.func34, Try.ntmps34
      go_wp2_with (first | (go_at_call 39; refine hA.mono ?_; rintro e w2 ⟨rfl, H2⟩))
      go_ret
      exact ⟨rfl, H2.out⟩
    · have h5' : 5 < kd := by omega
      have h6 : 6 ≤ kd := by omega
      by_cases h8 : kd ≤ 8
      · have hA : Calls Try.prog 40 #[.pointer (some ⟨b, 0, none⟩), .agg #[.int .i64 kd, .int .i64 D, .int .i64 off, .int .i64 v, .slice p l.length c]] W1 fun e w' => e = .returned (.bool true) ∧ Hid (PL w0 w' b) := by
          have : kd = 6 ∨ kd = 7 ∨ kd = 8 := by omega
          rcases this with rfl | rfl | rfl
          · exact makes_load w0 W1 b D off v p c l hP hp hl hbd
          · exact makes_copy w0 W1 b D off v p c l hP
          · exact makes_new w0 W1 b D off v p c l hP
        clear hbx hK h
        go_enter Try.func34, Try.ntmps34
        go_wp2_with (first | (go_at_call 40; refine hA.mono ?_; rintro e w2 ⟨rfl, H2⟩))
        go_ret
        exact ⟨rfl, H2.out⟩
      · have h8' : 8 < kd := by omega
        have HP := Hid.mk' hP
        clear hbx hK h hP
        go_enter Try.func34, Try.ntmps34
        go_wp2
        go_ret
        exact ⟨rfl, HP.out⟩
  · have h1' : kd < 1 := by omega
    have HP := Hid.mk' hP
    clear hbx hK h hP
    go_enter Try.func34, Try.ntmps34
    go_wp2
    go_ret
    exact ⟨rfl, HP.out⟩

end Go.Proofs.Ytndojlacdggfcab
