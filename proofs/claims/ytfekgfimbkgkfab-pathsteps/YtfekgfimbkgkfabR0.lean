import Derived.Test.YtfekgfimbkgkfabE0
import Derived.Test.YtfekgfimbkgkfabRows
import Derived.ProofKit
import Derived.Deep.Slices
import Derived.Deep.Strs
import Derived.Lib.SmallJoins
import Derived.OpenShut
import Derived.SizedLaws
namespace Go.Proofs.Ytfekgfimbkgkfab
open Go.ChangeShapes Go.WideShapes Go.ChangeAt Go.RowKit Go.Deep Go.Joins

theorem Try.own : ownKnob Try.prog.godebug = none := by kernel_rfl
theorem Try.laidOut : laidOutB Try.prog = true := by kernel_rfl
theorem Try.cells40 : Try.prog.cellsOf 40 = 4 := by kernel_rfl
theorem Try.bytes40 : Try.prog.bytesOf 40 = 40 := by kernel_rfl
theorem Try.cells25 : Try.prog.cellsOf 25 = 2 := by kernel_rfl
theorem Try.cells23 : Try.prog.cellsOf 23 = 1 := by kernel_rfl
theorem Try.cells4 : Try.prog.cellsOf 4 = 1 := by kernel_rfl
theorem Try.bytes9 : Try.prog.bytesOf 9 = 16 := by kernel_rfl

variable {H : Type} {enc : TypeId × Value → H} {w : World} {spare : Nat → Bool} {held : Bool}

theorem cell_addr {a : Addr} {v : Value} (h : w.cell? a = some v) : a.spot = none ∧ a.block < w.heap.size := by
  constructor
  · rcases hs : a.spot with _ | s
    · rfl
    · simp only [World.cell?, hs] at h
      split at h
      · simp at h
      · cases h
  · rcases Nat.lt_or_ge a.block w.heap.size with h' | h'
    · exact h'
    · simp [World.cell?, Array.getElem?_eq_none h'] at h
theorem weights_all {P : Program} {e : TypeId} {d : DataW H} : ∀ {l : List (DataW H)}, d ∈ l → ∀ n ∈ d.weights P e, n ∈ DataW.weightsAll P e l
  | [], h, _, _ => by cases h
  | x :: l, h, n, hn => by
    simp only [DataW.weightsAll, List.mem_append]
    rcases List.mem_cons.1 h with rfl | h
    · exact Or.inl hn
    · exact Or.inr (weights_all h n hn)
instance : Inhabited Ed := ⟨ez⟩

/-- A slice, opened: its elements one by one (k cells each), with their weights. -/
theorem open_row {α : Type} [Inhabited α] {t e : TypeId} {k by_ : Nat} (enca : α → List Value) (Ok : α → Prop) (ht : Try.prog.underlying t = some (.slice e)) (hk : Try.prog.cellsOf e = k) (hk0 : 0 < k) (hby : Try.prog.bytesOf e = by_) (hlen : ∀ a, (enca a).length = k)
    (hel : ∀ {fuel : Nat} {cs : List Value} {x : DataW H × List MemPlace}, DataW.trod enc Try.prog w 0 spare held fuel e cs = some x → (∀ n ∈ x.1.weights Try.prog e, n ≤ reachBytes) → ∃ a, cs = enca a ∧ Ok a)
    {fuel : Nat} {v : Value} {x : DataW H × List MemPlace} (h : DataW.trod enc Try.prog w 0 spare held fuel t [v] = some x) (hx : ∀ n ∈ x.1.weights Try.prog t, n ≤ reachBytes) :
    ∃ l : List α, Row w v l.length (l.flatMap enca) ∧ (∀ a ∈ l, Ok a) ∧ l.length * by_ ≤ reachBytes := by
  rcases open_slice ht h with ⟨h0, _⟩ | ⟨a, len, cap, m, n, D, Pl, hcs, hb, hl, hm, hmm, hxx, hx'⟩
  · simp only [List.cons.injEq, and_true] at h0
    subst h0
    exact ⟨[], ⟨none, 0, rfl, Nat.le_refl _, fun h => absurd h (by simp)⟩, by simp, by simp⟩
  · have hlm : len ≤ m := by rw [hmm]; split <;> omega
    rw [hxx] at hx
    have each : ∀ i, i < len → ∃ q : α, (∀ j u, (enca q)[j]? = some u → w.cell? (a.add (i * k + j)) = some u) ∧ Ok q := by
      intro i hi
      obtain ⟨cs', h1, h2⟩ := hx' i (by omega)
      rw [hk] at h1
      obtain ⟨_, hlen', hcell⟩ := World.cells?_some h1
      obtain ⟨q, hq, hok⟩ := hel h2 (fun n hn => hx n (by
        simp only [DataW.weights, ht, List.mem_cons, List.mem_append]
        exact Or.inr (Or.inl (weights_all (d := D i) (List.mem_map.2 ⟨i, List.mem_range.2 hi, rfl⟩) n hn))))
      refine ⟨q, fun j u hj => ?_, hok⟩
      rw [← hq] at hj
      have hjl := (List.getElem?_eq_some_iff.1 hj).1
      have := hcell j (by omega)
      rw [add_add] at this
      rw [this, hj]
    obtain ⟨q, hq⟩ := choose_lt each
    have hlb : len * by_ ≤ reachBytes := by
      have := hx ((((List.range len).map D).length + ((List.range (m - len)).map fun j => D (len + j)).length) * Try.prog.bytesOf e) (by simp [DataW.weights, ht])
      rw [hby] at this
      simp only [List.length_map, List.length_range] at this
      exact Nat.le_trans (Nat.mul_le_mul_right _ (by omega)) this
    simp only [List.cons.injEq, and_true] at hcs
    subst hcs
    have hL : ((List.range len).map q).length = len := by simp
    refine ⟨(List.range len).map q, ⟨some a, cap, by rw [hL], by rw [hL]; exact hl, fun h0 => ?_⟩, ?_, by rw [hL]; exact hlb⟩
    · rw [hL] at h0
      have hs : a.spot = none ∧ a.block < w.heap.size := by
        have h1 : (enca (q 0))[0]? = some ((enca (q 0))[0]'(by rw [hlen]; exact hk0)) := List.getElem?_eq_getElem _
        have := (hq 0 h0).1 0 _ h1
        exact cell_addr (a := a) (by simpa [Addr.add] using this)
      obtain ⟨ab, ao, sp⟩ := a
      obtain rfl : sp = none := hs.1
      refine ⟨ab, ao, rfl, hs.2, ?_⟩
      have key : ∀ (n : Nat) (j : Nat) (u : Value), n ≤ len → (((List.range n).map q).flatMap enca)[j]? = some u → w.cell? ⟨ab, ao + j, none⟩ = some u := by
        intro n
        induction n with
        | zero => intro j u _ hj; simp at hj
        | succ n ih =>
          intro j u hn hj
          have hl2 : (((List.range n).map q).flatMap enca).length = n * k := by
            clear ih hj hn
            induction n with
            | zero => simp
            | succ n ih2 => rw [List.range_succ, List.map_append, List.flatMap_append, List.length_append, ih2]; simp [hlen, Nat.succ_mul]
          rw [List.range_succ, List.map_append, List.flatMap_append] at hj
          rcases Nat.lt_or_ge j (n * k) with hjn | hjn
          · rw [List.getElem?_append_left (by rw [hl2]; exact hjn)] at hj
            exact ih j u (by omega) hj
          · rw [List.getElem?_append_right (by rw [hl2]; exact hjn), hl2] at hj
            have := (hq n (by omega)).1 (j - n * k) u (by simpa using hj)
            rw [addr_add, show n * k + (j - n * k) = j by omega] at this
            exact this
      intro j u hj
      exact key len j u (Nat.le_refl _) hj
    · intro s hs
      obtain ⟨i, hi, rfl⟩ := List.mem_map.1 hs
      exact (hq i (List.mem_range.1 hi)).2

theorem open_str {fuel : Nat} {cs : List Value} {x : DataW H × List MemPlace} (h : DataW.trod enc Try.prog w 0 spare held fuel 9 cs = some x) (hx : ∀ n ∈ x.1.weights Try.prog 9, n ≤ reachBytes) : ∃ s : ByteArray, cs = [.string s] ∧ s.size ≤ 140737488355328 := by
  obtain ⟨s, e, hd, hs⟩ := DataW.trod_string Try.underlying9 h
  refine ⟨s, e, ?_⟩
  have := hx s.data.toList.length (by rw [hd]; simp [DataW.weights])
  rw [← size_len] at this
  unfold reachBytes at this; omega
theorem flat_strs (l : List ByteArray) : l.flatMap (fun s => [Value.string s]) = strs l := by
  induction l with
  | nil => rfl
  | cons a l ih => simp [strs] at ih ⊢; exact ih
instance : Inhabited ByteArray := ⟨bz⟩

/-- A list of texts, opened. -/
theorem open_parts {fuel : Nat} {v : Value} {x : DataW H × List MemPlace} (h : DataW.trod enc Try.prog w 0 spare held fuel 23 [v] = some x) (hx : ∀ n ∈ x.1.weights Try.prog 23, n ≤ reachBytes) :
    ∃ l : List ByteArray, Row w v l.length (strs l) ∧ PsOk l := by
  obtain ⟨l, h1, h2, h3⟩ := open_row (fun s => [Value.string s]) (fun s => s.size ≤ 140737488355328) Try.underlying23 (k := 1) (by kernel_rfl) (by omega) Try.bytes9 (fun _ => rfl) (fun h hw => open_str h hw) h hx
  rw [flat_strs] at h1
  refine ⟨l, h1, ?_, fun s hs => by have := h2 s hs; omega⟩
  unfold reachBytes at h3; omega

set_option maxRecDepth 100000 in
theorem open_edge {fuel : Nat} {cs' : List Value} {x : DataW H × List MemPlace} (h : DataW.trod enc Try.prog w 0 spare held fuel 40 cs' = some x) (hx : ∀ n ∈ x.1.weights Try.prog 40, n ≤ reachBytes) : ∃ e : Ed, cs' = ecell e ∧ EdOk e := by
  obtain ⟨xs, n, _, hxe, hl, hlen, hg⟩ := DataW.trod_struct Try.underlying40 h
  rw [Try.cells40] at hl
  match xs, hlen, cs', hl with
  | [y0, y1, y2, y3], _, [c0, c1, c2, c3], _ =>
    have g0 := hg 0 _ rfl
    have g1 := hg 1 _ rfl
    have g2 := hg 2 _ rfl
    have g3 := hg 3 _ rfl
    simp [cells3, cells9, Try.cells4] at g0 g1 g2 g3
    obtain ⟨a0, e0, _, w0⟩ := DataW.trod_int Try.underlying3 g0
    obtain ⟨s1, e1, w1⟩ := open_str g1 (fun n hn => hx n (by
      rw [hxe]
      simp only [DataW.weights, Try.underlying40]
      exact DataW.weights_mem_each (j := 1) rfl rfl n hn))
    obtain ⟨a2, e2, _, w2⟩ := DataW.trod_int Try.underlying3 g2
    obtain ⟨b3, e3, _⟩ := DataW.trod_bool Try.underlying4 g3
    simp at e0 e1 e2 e3
    subst e0 e1 e2 e3
    exact ⟨(a0, s1, a2, b3), rfl, w0, w2, w1⟩
/-- A list of edges, opened. -/
theorem open_edges {fuel : Nat} {v : Value} {x : DataW H × List MemPlace} (h : DataW.trod enc Try.prog w 0 spare held fuel 22 [v] = some x) (hx : ∀ n ∈ x.1.weights Try.prog 22, n ≤ reachBytes) :
    ∃ l : List Ed, Row w v l.length (ecells l) ∧ (∀ e ∈ l, EdOk e) ∧ l.length ≤ 3518437208780 := by
  obtain ⟨l, h1, h2, h3⟩ := open_row ecell EdOk Try.underlying22 Try.cells40 (by omega) Try.bytes40 (fun _ => rfl) (fun h hw => open_edge h hw) h hx
  refine ⟨l, h1, h2, ?_⟩
  unfold reachBytes at h3; omega
set_option maxRecDepth 100000 in
/-- A path, opened. -/
theorem open_path {fuel : Nat} {cs' : List Value} {x : DataW H × List MemPlace} (h : DataW.trod enc Try.prog w 0 spare held fuel 25 cs' = some x) (hx : ∀ n ∈ x.1.weights Try.prog 25, n ≤ reachBytes) :
    ∃ (v : Value) (l : List ByteArray) (sl : Bool), cs' = [v, .bool sl] ∧ Row w v l.length (strs l) ∧ PsOk l := by
  obtain ⟨xs, n, _, hxe, hl, hlen, hg⟩ := DataW.trod_struct Try.underlying25 h
  rw [Try.cells25] at hl
  match xs, hlen, cs', hl with
  | [y0, y1], _, [c0, c1], _ =>
    have g0 := hg 0 _ rfl
    have g1 := hg 1 _ rfl
    simp [Try.cells23, Try.cells4] at g0 g1
    obtain ⟨l, h1, h2⟩ := open_parts g0 (fun n hn => hx n (by
      rw [hxe]
      simp only [DataW.weights, Try.underlying25]
      exact DataW.weights_mem_each (j := 0) rfl rfl n hn))
    obtain ⟨b1, e1, _⟩ := DataW.trod_bool Try.underlying4 g1
    simp at e1
    subst e1
    exact ⟨c0, l, b1, rfl, h1, h2⟩
end Go.Proofs.Ytfekgfimbkgkfab
