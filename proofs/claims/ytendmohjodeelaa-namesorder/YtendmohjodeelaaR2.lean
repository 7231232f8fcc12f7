import Derived.Test.YtendmohjodeelaaR0
namespace Go.Proofs.Ytendmohjodeelaa
open Go.ChangeShapes Go.WideShapes Go.ChangeAt Go.RowKit Go.Deep Go.Joins
variable {H : Type} {enc : TypeId × Value → H} {w : World} {spare : Nat → Bool} {held : Bool}

set_option maxRecDepth 100000 in
/-- A script, opened, with its weight. -/
theorem open_opsT {fuel : Nat} {v : Value} {x : DataW H × List MemPlace} (h : DataW.trod enc Try.prog w 0 spare held fuel 23 [v] = some x) (hx : ∀ n ∈ x.1.weights Try.prog 23, n ≤ reachBytes) :
    ∃ p cap l, v = .slice p l.length cap ∧ OpIn w p l ∧ (∀ t ∈ l, OpOk t) ∧ l.length ≤ 2513169434916 := by
  rcases open_slice Try.underlying23 h with ⟨h0, _⟩ | ⟨a, len, cap, m, n, D, Pl, hcs, hb, hl, hm, hmm, hxx, hx'⟩
  · exact ⟨none, 0, [], by simpa using h0, fun h => absurd h (by simp), by simp, by simp⟩
  · have hlm : len ≤ m := by rw [hmm]; split <;> omega
    have each : ∀ i, i < len → ∃ q : OpT, (∀ j u, (opCells q)[j]? = some u → w.cell? (a.add (i * 6 + j)) = some u) ∧ OpOk q := by
      intro i hi
      obtain ⟨cs', h1, h2⟩ := hx' i (by omega)
      rw [Try.cells34] at h1
      obtain ⟨_, hlen, hcell⟩ := World.cells?_some h1
      obtain ⟨q, hq, hok⟩ := open_op h2
      refine ⟨q, fun j u hj => ?_, hok⟩
      rw [← hq] at hj
      have hjl := (List.getElem?_eq_some_iff.1 hj).1
      have := hcell j (by omega)
      rw [add_add] at this
      rw [this, hj]
    obtain ⟨q, hq⟩ := choose_lt each
    have hlen : len * 56 ≤ 140737488355328 := by
      rw [hxx] at hx
      have := hx ((((List.range len).map D).length + ((List.range (m - len)).map fun j => D (len + j)).length) * Try.prog.bytesOf 34) (by simp [DataW.weights, Try.underlying23])
      rw [Try.bytes34] at this
      simp [reachBytes] at this
      omega
    refine ⟨some a, cap, (List.range len).map q, by simpa using hcs, ?_, ?_, by simp; omega⟩
    · intro h0
      simp only [List.length_map, List.length_range] at h0
      have hs : a.spot = none ∧ a.block < w.heap.size := by
        have := (hq 0 h0).1 0 _ rfl
        exact cell_addr (a := a) (by simpa [Addr.add] using this)
      obtain ⟨ab, ao, sp⟩ := a
      obtain rfl : sp = none := hs.1
      refine ⟨ab, ao, rfl, hs.2, fun i hi j u hj => ?_⟩
      simp only [List.length_map, List.length_range] at hi
      have e : ((List.range len).map q).getD i opZ = q i := by simp [List.getD_eq_getElem?_getD, hi]
      rw [e] at hj
      have := (hq i hi).1 j u hj
      rw [addr_add] at this
      rw [Nat.add_assoc]; exact this
    · intro s hs
      obtain ⟨i, hi, rfl⟩ := List.mem_map.1 hs
      exact (hq i (List.mem_range.1 hi)).2

end Go.Proofs.Ytendmohjodeelaa
