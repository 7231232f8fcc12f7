import Derived.Test.YtndojlacdggfcabL2
import Derived.Test.YtndojlacdggfcabRows
import Derived.ProofKit
import Derived.Deep.Slices
import Derived.Deep.Strs
import Derived.Lib.SmallJoins
import Derived.OpenShut
import Derived.SizedLaws
namespace Go.Proofs.Ytndojlacdggfcab
open Go.ChangeShapes Go.WideShapes Go.ChangeAt Go.RowKit Go.Deep Go.Joins

theorem Try.own : ownKnob Try.prog.godebug = none := by kernel_rfl
theorem Try.laidOut : laidOutB Try.prog = true := by kernel_rfl
theorem Try.cells38 : Try.prog.cellsOf 38 = 3 := by kernel_rfl
theorem Try.bytes38 : Try.prog.bytesOf 38 = 24 := by kernel_rfl
theorem Try.cells68 : Try.prog.cellsOf 68 = 5 := by kernel_rfl
theorem Try.cells27 : Try.prog.cellsOf 27 = 1 := by kernel_rfl
theorem Try.cells3 : Try.prog.cellsOf 3 = 1 := by kernel_rfl
theorem Try.cells4 : Try.prog.cellsOf 4 = 1 := by kernel_rfl

variable {H : Type} {enc : TypeId × Value → H} {w : World} {spare : Nat → Bool} {held : Bool}

theorem cell_addr {a : Addr} {v : Value} (h : w.cell? a = some v) : a.spot = none ∧ a.block < w.heap.size := by
  constructor
  · rcases hs : a.spot with _ | s
    · rfl
    · simp only [World.cell?, hs] at h
      split at h
      · simp at h
      · cases h
  · rcases Nat.lt_or_ge a.block w.heap.size with h' | h'
    · exact h'
    · simp [World.cell?, Array.getElem?_eq_none h'] at h

theorem addr_add (b o j : Nat) : (⟨b, o, none⟩ : Addr).add j = ⟨b, o + j, none⟩ := by
  unfold Addr.add
  split
  · rename_i h; rw [h]; rfl
  · rfl

theorem wf_i64_bd {k : Int} (h : (Lit.int .i64 k).wf = true) : -9223372036854775808 ≤ k ∧ k ≤ 9223372036854775807 := by
  have := bounds_i64 h
  omega

/-- All its weights are within reach. -/
def Light (t : TypeId) (d : DataW H) : Prop := ∀ n ∈ d.weights Try.prog t, n ≤ reachBytes

theorem weights_all {P : Program} {e : TypeId} {d : DataW H} : ∀ {l : List (DataW H)}, d ∈ l → ∀ n ∈ d.weights P e, n ∈ DataW.weightsAll P e l
  | x :: l, hd, n, hn => by
    simp only [DataW.weightsAll, List.mem_append]
    rcases List.mem_cons.1 hd with rfl | h
    · exact Or.inl hn
    · exact Or.inr (weights_all h n hn)

set_option maxRecDepth 100000 in
/-- A slice of runs, opened, with its weight. -/
theorem open_runsL {fuel : Nat} {v : Value} {x : DataW H × List MemPlace} (h : DataW.trod enc Try.prog w 0 spare held fuel 27 [v] = some x) (hx : Light 27 x.1) :
    ∃ p cap, ∃ l : List Rn, v = .slice p l.length cap ∧ RnIn w p l ∧ l.length * 24 ≤ 140737488355328 ∧ ∀ r ∈ l, bdR r := by
  rcases open_slice Try.underlying27 h with ⟨h0, _⟩ | ⟨a, len, cap, m, n, D, Pl, hcs, hb, hl, hm, hmm, hxx, hx'⟩
  · exact ⟨none, 0, [], by simpa using h0, fun h => absurd h (by simp), by simp, by simp⟩
  · have hlm : len ≤ m := by rw [hmm]; split <;> omega
    have each : ∀ i, i < len → ∃ q : Rn, (w.cell? (a.add (i * 3)) = some (.int .i64 q.1) ∧ w.cell? (a.add (i * 3 + 1)) = some (.int .i64 q.2.1) ∧ w.cell? (a.add (i * 3 + 2)) = some (.int .i64 q.2.2)) ∧ bdR q := by
      intro i hi
      obtain ⟨cs', h1, h2⟩ := hx' i (by omega)
      rw [Try.cells38] at h1
      obtain ⟨_, hlen, hcell⟩ := World.cells?_some h1
      obtain ⟨y0, y1, y2, n', _, _, g0, g1, g2⟩ := trod_struct3 Try.underlying38 h2
      match cs', hlen with
      | [v0, v1, v2], _ =>
        simp [Try.cells3] at g0 g1 g2
        obtain ⟨a0, e0, _, w0⟩ := DataW.trod_int Try.underlying3 g0
        obtain ⟨a1, e1, _, w1⟩ := DataW.trod_int Try.underlying3 g1
        obtain ⟨a2, e2, _, _⟩ := DataW.trod_int Try.underlying3 g2
        simp at e0 e1 e2
        subst e0 e1 e2
        have c0 := hcell 0 (by omega)
        have c1 := hcell 1 (by omega)
        have c2 := hcell 2 (by omega)
        rw [add_add] at c0 c1 c2
        exact ⟨(a0, a1, a2), ⟨by simpa using c0, by simpa using c1, by simpa using c2⟩, (wf_i64_bd w0).1, (wf_i64_bd w0).2, (wf_i64_bd w1).1, (wf_i64_bd w1).2⟩
    obtain ⟨q, hq⟩ := choose_lt each
    have hlen : len * 24 ≤ 140737488355328 := by
      rw [hxx] at hx
      have := hx ((((List.range len).map D).length + ((List.range (m - len)).map fun j => D (len + j)).length) * Try.prog.bytesOf 38) (by simp [DataW.weights, Try.underlying27])
      rw [Try.bytes38] at this
      simp [reachBytes] at this
      omega
    refine ⟨some a, cap, (List.range len).map q, by simpa using hcs, ?_, by simpa using hlen, ?_⟩
    · intro h0
      simp only [List.length_map, List.length_range] at h0
      have hs : a.spot = none ∧ a.block < w.heap.size := by
        have := (hq 0 h0).1.1
        exact cell_addr (a := a) (by simpa [Addr.add] using this)
      obtain ⟨ab, ao, sp⟩ := a
      obtain rfl : sp = none := hs.1
      refine ⟨ab, ao, rfl, hs.2, fun i hi => ?_⟩
      simp only [List.length_map, List.length_range] at hi
      have e : ((List.range len).map q).getD i rz = q i := by simp [List.getD_eq_getElem?_getD, hi]
      rw [e]
      obtain ⟨c0, c1, c2⟩ := (hq i hi).1
      rw [addr_add] at c0 c1 c2
      exact ⟨c0, by simpa [Nat.add_assoc] using c1, by simpa [Nat.add_assoc] using c2⟩
    · intro s hs
      obtain ⟨i, hi, rfl⟩ := List.mem_map.1 hs
      exact (hq i (List.mem_range.1 hi)).2

set_option maxRecDepth 100000 in
theorem open_opL {fuel : Nat} {cs' : List Value} {x : DataW H × List MemPlace} (h : DataW.trod enc Try.prog w 0 spare held fuel 68 cs' = some x) (hx : Light 68 x.1) :
    ∃ t : OpT, cs' = [.int .i64 t.k, .int .i64 t.D, .int .i64 t.off, .int .i64 t.v, .slice t.pp t.l.length t.pc] ∧ OpOk w t := by
  obtain ⟨xs, n, _, hxe, hl, hlen, hg⟩ := DataW.trod_struct Try.underlying68 h
  rw [Try.cells68] at hl
  match xs, hlen, cs', hl with
  | [y0, y1, y2, y3, y4], _, [c0, c1, c2, c3, c4], _ =>
    have g0 := hg 0 _ rfl
    have g1 := hg 1 _ rfl
    have g2 := hg 2 _ rfl
    have g3 := hg 3 _ rfl
    have g4 := hg 4 _ rfl
    simp [Try.cells3, Try.cells27] at g0 g1 g2 g3 g4
    obtain ⟨a0, e0, _, _⟩ := DataW.trod_int Try.underlying3 g0
    obtain ⟨a1, e1, _, _⟩ := DataW.trod_int Try.underlying3 g1
    obtain ⟨a2, e2, _, _⟩ := DataW.trod_int Try.underlying3 g2
    obtain ⟨a3, e3, _, _⟩ := DataW.trod_int Try.underlying3 g3
    rw [hxe] at hx
    have hall : ∀ n ∈ DataW.weightsEach Try.prog [3, 3, 3, 3, 27] [y0.1, y1.1, y2.1, y3.1, y4.1], n ≤ reachBytes := fun n hn => hx n (by
      simp only [DataW.weights, Try.underlying68]
      exact hn)
    obtain ⟨p4, c4', l1, e4, i1, w1, hr⟩ := open_runsL g4 (fun n hn => hall n (DataW.weights_mem_each (j := 4) rfl rfl n hn))
    simp at e0 e1 e2 e3
    subst e0 e1 e2 e3 e4
    exact ⟨⟨a0, a1, a2, a3, p4, c4', l1⟩, rfl, i1, w1, hr⟩

set_option maxRecDepth 100000 in
/-- A script, opened, with what is known of its lists. -/
theorem open_opsL {fuel : Nat} {v : Value} {x : DataW H × List MemPlace} (h : DataW.trod enc Try.prog w 0 spare held fuel 47 [v] = some x) (hx : Light 47 x.1) :
    ∃ p cap l, v = .slice p l.length cap ∧ OpIn w p l ∧ (∀ i, i < l.length → OpOk w (l.getD i opZ)) ∧ l.length ≤ maxLen := by
  rcases open_slice Try.underlying47 h with ⟨h0, _⟩ | ⟨a, len, cap, m, n, D, Pl, hcs, hb, hl, hm, hmm, hxx, hx'⟩
  · exact ⟨none, 0, [], by simpa using h0, fun h => absurd h (by simp), fun i hi => absurd hi (by simp), by simp⟩
  · have hlm : len ≤ m := by rw [hmm]; split <;> omega
    have each : ∀ i, i < len → ∃ q : OpT, (∀ j u, [Value.int .i64 q.k, .int .i64 q.D, .int .i64 q.off, .int .i64 q.v, .slice q.pp q.l.length q.pc][j]? = some u → w.cell? (a.add (i * 5 + j)) = some u) ∧ OpOk w q := by
      intro i hi
      obtain ⟨cs', h1, h2⟩ := hx' i (by omega)
      rw [Try.cells68] at h1
      obtain ⟨_, hlen, hcell⟩ := World.cells?_some h1
      obtain ⟨q, hq, hok⟩ := open_opL h2 (fun n hn => by
        rw [hxx] at hx
        refine hx n ?_
        simp only [DataW.weights, Try.underlying47, List.mem_cons, List.mem_append]
        exact Or.inr (Or.inl (weights_all (d := D i) (List.mem_map.2 ⟨i, List.mem_range.2 hi, rfl⟩) n hn)))
      refine ⟨q, fun j u hj => ?_, hok⟩
      rw [← hq] at hj
      have hjl := (List.getElem?_eq_some_iff.1 hj).1
      have := hcell j (by omega)
      rw [add_add] at this
      rw [this, hj]
    obtain ⟨q, hq⟩ := choose_lt each
    refine ⟨some a, cap, (List.range len).map q, by simpa using hcs, ?_, ?_, by simp; omega⟩
    · intro h0
      simp only [List.length_map, List.length_range] at h0
      have hs : a.spot = none ∧ a.block < w.heap.size := by
        have := (hq 0 h0).1 0 _ rfl
        exact cell_addr (a := a) (by simpa [Addr.add] using this)
      obtain ⟨ab, ao, sp⟩ := a
      obtain rfl : sp = none := hs.1
      refine ⟨ab, ao, rfl, hs.2, fun i hi => ?_⟩
      simp only [List.length_map, List.length_range] at hi
      have e : ((List.range len).map q).getD i opZ = q i := by simp [List.getD_eq_getElem?_getD, hi]
      rw [e]
      have hc : ∀ j u, [Value.int .i64 (q i).k, .int .i64 (q i).D, .int .i64 (q i).off, .int .i64 (q i).v, .slice (q i).pp (q i).l.length (q i).pc][j]? = some u → w.cell? ⟨ab, ao + i * 5 + j, none⟩ = some u := fun j u hj => by
        have := (hq i hi).1 j u hj
        rw [addr_add] at this
        rw [Nat.add_assoc]; exact this
      exact ⟨hc 0 _ rfl, hc 1 _ rfl, hc 2 _ rfl, hc 3 _ rfl, hc 4 _ rfl⟩
    · intro i hi
      simp only [List.length_map, List.length_range] at hi
      have e : ((List.range len).map q).getD i opZ = q i := by simp [List.getD_eq_getElem?_getD, hi]
      rw [e]
      exact (hq i hi).2

end Go.Proofs.Ytndojlacdggfcab
