import Derived.Test.YtndojlacdggfcaaD1
import Derived.Test.YtndojlacdggfcaaRows
import Derived.ProofKit
import Derived.Deep.Slices
import Derived.Deep.Strs
import Derived.Lib.SmallJoins
import Derived.OpenShut
namespace Go.Proofs.Ytndojlacdggfcaa
open Go.ChangeShapes Go.WideShapes Go.ChangeAt Go.RowKit Go.Deep Go.Joins

theorem Try.own : ownKnob Try.prog.godebug = none := by kernel_rfl
theorem Try.laidOut : laidOutB Try.prog = true := by kernel_rfl
theorem Try.cells30 : Try.prog.cellsOf 30 = 3 := by kernel_rfl
theorem Try.cells3 : Try.prog.cellsOf 3 = 1 := by kernel_rfl
theorem Try.cells4 : Try.prog.cellsOf 4 = 1 := by kernel_rfl

variable {H : Type} {enc : TypeId × Value → H} {w : World} {spare : Nat → Bool} {held : Bool}

theorem cell_addr {a : Addr} {v : Value} (h : w.cell? a = some v) : a.spot = none ∧ a.block < w.heap.size := by
  constructor
  · rcases hs : a.spot with _ | s
    · rfl
    · simp only [World.cell?, hs] at h
      split at h
      · simp at h
      · cases h
  · rcases Nat.lt_or_ge a.block w.heap.size with h' | h'
    · exact h'
    · simp [World.cell?, Array.getElem?_eq_none h'] at h

theorem addr_add (b o j : Nat) : (⟨b, o, none⟩ : Addr).add j = ⟨b, o + j, none⟩ := by
  unfold Addr.add
  split
  · rename_i h; rw [h]; rfl
  · rfl

theorem wf_i64_bd {k : Int} (h : (Lit.int .i64 k).wf = true) : -9223372036854775808 ≤ k ∧ k ≤ 9223372036854775807 := by
  have := bounds_i64 h
  omega

set_option maxRecDepth 100000 in
/-- A slice of steps, opened. -/
theorem open_puts {fuel : Nat} {v : Value} {x : DataW H × List MemPlace} (h : DataW.trod enc Try.prog w 0 spare held fuel 22 [v] = some x) :
    ∃ p cap l, v = .slice p l.length cap ∧ PutsIn w p l ∧ l.length ≤ maxLen ∧ ∀ q ∈ l, -9223372036854775808 ≤ q.2.2 ∧ q.2.2 ≤ 9223372036854775807 := by
  rcases open_slice Try.underlying22 h with ⟨h0, _⟩ | ⟨a, len, cap, m, n, D, Pl, hcs, hb, hl, hm, hmm, _, hx⟩
  · refine ⟨none, 0, [], by simpa using h0, fun h => absurd h (by simp), by simp, by simp⟩
  · have hlm : len ≤ m := by rw [hmm]; split <;> omega
    have each : ∀ i, i < len → ∃ q : Bool × Int × Int, w.cell? (a.add (i * 3)) = some (.bool q.1) ∧ w.cell? (a.add (i * 3 + 1)) = some (.int .i64 q.2.1) ∧ w.cell? (a.add (i * 3 + 2)) = some (.int .i64 q.2.2) ∧ (-9223372036854775808 ≤ q.2.2 ∧ q.2.2 ≤ 9223372036854775807) := by
      intro i hi
      obtain ⟨cs', h1, h2⟩ := hx i (by omega)
      rw [Try.cells30] at h1
      obtain ⟨_, hlen, hcell⟩ := World.cells?_some h1
      obtain ⟨y0, y1, y2, n', _, _, g0, g1, g2⟩ := trod_struct3 Try.underlying30 h2
      match cs', hlen with
      | [v0, v1, v2], _ =>
        simp [Try.cells3, Try.cells4] at g0 g1 g2
        obtain ⟨a0, e0, _⟩ := DataW.trod_bool Try.underlying4 g0
        obtain ⟨a1, e1, _, _⟩ := DataW.trod_int Try.underlying3 g1
        obtain ⟨a2, e2, _, hwf⟩ := DataW.trod_int Try.underlying3 g2
        simp at e0 e1 e2
        subst e0 e1 e2
        have c0 := hcell 0 (by omega)
        have c1 := hcell 1 (by omega)
        have c2 := hcell 2 (by omega)
        rw [add_add] at c0 c1 c2
        exact ⟨(a0, a1, a2), by simpa using c0, by simpa using c1, by simpa using c2, wf_i64_bd hwf⟩
    obtain ⟨q, hq⟩ := choose_lt each
    refine ⟨some a, cap, (List.range len).map q, by simpa using hcs, ?_, by simp; omega, ?_⟩
    rotate_left
    · intro q' hq'
      obtain ⟨i, hi, rfl⟩ := List.mem_map.1 hq'
      exact (hq i (by simpa using hi)).2.2.2
    intro h0
    simp only [List.length_map, List.length_range] at h0
    have hs : a.spot = none ∧ a.block < w.heap.size := cell_addr (hq 0 h0).1
    obtain ⟨ab, ao, sp⟩ := a
    obtain rfl : sp = none := hs.1
    refine ⟨ab, ao, rfl, hs.2, fun i hi => ?_⟩
    simp only [List.length_map, List.length_range] at hi
    have e : ((List.range len).map q).getD i d0 = q i := by simp [List.getD_eq_getElem?_getD, hi]
    rw [e]
    obtain ⟨c0, c1, c2, _⟩ := hq i hi
    rw [addr_add] at c0 c1 c2
    exact ⟨c0, by simpa [Nat.add_assoc] using c1, by simpa [Nat.add_assoc] using c2⟩

end Go.Proofs.Ytndojlacdggfcaa
