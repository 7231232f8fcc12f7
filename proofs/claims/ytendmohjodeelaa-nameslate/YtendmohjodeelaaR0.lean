import Derived.Test.YtendmohjodeelaaB5
import Derived.Test.YtendmohjodeelaaRows
import Derived.ProofKit
import Derived.Deep.Slices
import Derived.Deep.Strs
import Derived.Lib.SmallJoins
import Derived.OpenShut
import Derived.SizedLaws
namespace Go.Proofs.Ytendmohjodeelaa
open Go.ChangeShapes Go.WideShapes Go.ChangeAt Go.RowKit Go.Deep Go.Joins

theorem Try.own : ownKnob Try.prog.godebug = none := by kernel_rfl
theorem Try.laidOut : laidOutB Try.prog = true := by kernel_rfl
theorem Try.cells34 : Try.prog.cellsOf 34 = 6 := by kernel_rfl
theorem Try.bytes34 : Try.prog.bytesOf 34 = 56 := by kernel_rfl
theorem Try.cells9 : Try.prog.cellsOf 9 = 1 := by kernel_rfl

variable {H : Type} {enc : TypeId × Value → H} {w : World} {spare : Nat → Bool} {held : Bool}

theorem cell_addr {a : Addr} {v : Value} (h : w.cell? a = some v) : a.spot = none ∧ a.block < w.heap.size := by
  constructor
  · rcases hs : a.spot with _ | s
    · rfl
    · simp only [World.cell?, hs] at h
      split at h
      · simp at h
      · cases h
  · rcases Nat.lt_or_ge a.block w.heap.size with h' | h'
    · exact h'
    · simp [World.cell?, Array.getElem?_eq_none h'] at h

theorem addr_add (b o j : Nat) : (⟨b, o, none⟩ : Addr).add j = ⟨b, o + j, none⟩ := by
  unfold Addr.add
  split
  · rename_i h; rw [h]; rfl
  · rfl

instance : Inhabited OpT := ⟨opZ⟩

/-- What is known of a step. -/
def OpOk (t : OpT) : Prop := (Lit.int .i64 t.d).wf = true ∧ (Lit.int .i64 t.i).wf = true ∧ t.s.size ≤ maxLen

set_option maxRecDepth 100000 in
theorem open_op {fuel : Nat} {cs' : List Value} {x : DataW H × List MemPlace} (h : DataW.trod enc Try.prog w 0 spare held fuel 34 cs' = some x) :
    ∃ t : OpT, cs' = opCells t ∧ OpOk t := by
  obtain ⟨xs, n, _, hxe, hl, hlen, hg⟩ := DataW.trod_struct Try.underlying34 h
  rw [Try.cells34] at hl
  match xs, hlen, cs', hl with
  | [y0, y1, y2, y3, y4, y5], _, [c0, c1, c2, c3, c4, c5], _ =>
    have g0 := hg 0 _ rfl
    have g1 := hg 1 _ rfl
    have g2 := hg 2 _ rfl
    have g3 := hg 3 _ rfl
    have g4 := hg 4 _ rfl
    have g5 := hg 5 _ rfl
    simp [cells3, Try.cells9] at g0 g1 g2 g3 g4 g5
    obtain ⟨a0, e0, _, _⟩ := DataW.trod_int Try.underlying3 g0
    obtain ⟨a1, e1, _, _⟩ := DataW.trod_int Try.underlying3 g1
    obtain ⟨a2, e2, _, _⟩ := DataW.trod_int Try.underlying3 g2
    obtain ⟨a3, e3, _, w3⟩ := DataW.trod_int Try.underlying3 g3
    obtain ⟨s4, e4, _, w4⟩ := DataW.trod_string Try.underlying9 g4
    obtain ⟨a5, e5, _, w5⟩ := DataW.trod_int Try.underlying3 g5
    simp at e0 e1 e2 e3 e4 e5
    subst e0 e1 e2 e3 e4 e5
    exact ⟨⟨a0, a1, a2, a3, s4, a5⟩, rfl, w3, w5, w4⟩

set_option maxRecDepth 100000 in
/-- A script, opened, with its weight. -/
theorem open_ops {fuel : Nat} {v : Value} {x : DataW H × List MemPlace} (h : DataW.trod enc Try.prog w 0 spare held fuel 23 [v] = some x) (hx : ∀ n ∈ x.1.weights Try.prog 23, n ≤ reachBytes) :
    ∃ p cap l, v = .slice p l.length cap ∧ OpIn w p l ∧ (∀ t ∈ l, OpOk t) ∧ l.length < 3000000000000 := by
  rcases open_slice Try.underlying23 h with ⟨h0, _⟩ | ⟨a, len, cap, m, n, D, Pl, hcs, hb, hl, hm, hmm, hxx, hx'⟩
  · exact ⟨none, 0, [], by simpa using h0, fun h => absurd h (by simp), by simp, by simp⟩
  · have hlm : len ≤ m := by rw [hmm]; split <;> omega
    have each : ∀ i, i < len → ∃ q : OpT, (∀ j u, (opCells q)[j]? = some u → w.cell? (a.add (i * 6 + j)) = some u) ∧ OpOk q := by
      intro i hi
      obtain ⟨cs', h1, h2⟩ := hx' i (by omega)
      rw [Try.cells34] at h1
      obtain ⟨_, hlen, hcell⟩ := World.cells?_some h1
      obtain ⟨q, hq, hok⟩ := open_op h2
      refine ⟨q, fun j u hj => ?_, hok⟩
      rw [← hq] at hj
      have hjl := (List.getElem?_eq_some_iff.1 hj).1
      have := hcell j (by omega)
      rw [add_add] at this
      rw [this, hj]
    obtain ⟨q, hq⟩ := choose_lt each
    have hlen : len * 56 ≤ 140737488355328 := by
      rw [hxx] at hx
      have := hx ((((List.range len).map D).length + ((List.range (m - len)).map fun j => D (len + j)).length) * Try.prog.bytesOf 34) (by simp [DataW.weights, Try.underlying23])
      rw [Try.bytes34] at this
      simp [reachBytes] at this
      omega
    refine ⟨some a, cap, (List.range len).map q, by simpa using hcs, ?_, ?_, by simp; omega⟩
    · intro h0
      simp only [List.length_map, List.length_range] at h0
      have hs : a.spot = none ∧ a.block < w.heap.size := by
        have := (hq 0 h0).1 0 _ rfl
        exact cell_addr (a := a) (by simpa [Addr.add] using this)
      obtain ⟨ab, ao, sp⟩ := a
      obtain rfl : sp = none := hs.1
      refine ⟨ab, ao, rfl, hs.2, fun i hi j u hj => ?_⟩
      simp only [List.length_map, List.length_range] at hi
      have e : ((List.range len).map q).getD i opZ = q i := by simp [List.getD_eq_getElem?_getD, hi]
      rw [e] at hj
      have := (hq i hi).1 j u hj
      rw [addr_add] at this
      rw [Nat.add_assoc]; exact this
    · intro s hs
      obtain ⟨i, hi, rfl⟩ := List.mem_map.1 hs
      exact (hq i (List.mem_range.1 hi)).2

end Go.Proofs.Ytendmohjodeelaa
