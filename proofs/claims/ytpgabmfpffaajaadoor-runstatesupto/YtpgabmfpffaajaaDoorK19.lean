import Derived.Test.YtpgabmfpffaajaaDoorK18
import Derived.Test.YtpgabmfpffaajaaDoorRows
import Derived.ProofKit
import Derived.OpenShut
import Derived.SizedLaws
import Derived.LaidMore
import Derived.Stop.Joined
import Derived.Stop.LaidErr
import Derived.Lib.LaidTab
import Derived.Deep.Slices
import Derived.Deep.Strs
import Derived.Deep.DeepHandedRow
namespace Go.Proofs.YtpgabmfpffaajaaDoor
open Go.ChangeShapes Go.WideShapes Go.ChangeAt Go.RowKit Go.Deep Go.Joins
set_option maxRecDepth 100000

theorem Tryd.own : ownKnob Tryd.prog.godebug = none := by kernel_rfl
theorem Tryd.laidOut : laidOutB Tryd.prog = true := by kernel_rfl
theorem Tryd.cells3 : Tryd.prog.cellsOf 3 = 1 := by kernel_rfl
theorem Tryd.cells9 : Tryd.prog.cellsOf 9 = 1 := by kernel_rfl
theorem Tryd.cellsNode : Tryd.prog.cellsOf 36 = 10 := by kernel_rfl
theorem Tryd.cellsDent : Tryd.prog.cellsOf 54 = 2 := by kernel_rfl
theorem Tryd.cellsRun : Tryd.prog.cellsOf 45 = 3 := by kernel_rfl
theorem Tryd.cellsSpan : Tryd.prog.cellsOf 39 = 2 := by kernel_rfl
theorem Tryd.cellsShape : Tryd.prog.cellsOf 23 = 4 := by kernel_rfl
theorem Tryd.cellsState : Tryd.prog.cellsOf 27 = 6 := by kernel_rfl
theorem Tryd.cellsInts : Tryd.prog.cellsOf 31 = 1 := by kernel_rfl
theorem Tryd.cellsNodes : Tryd.prog.cellsOf 24 = 1 := by kernel_rfl
theorem Tryd.cellsSpans : Tryd.prog.cellsOf 25 = 1 := by kernel_rfl
theorem Tryd.cellsRuns : Tryd.prog.cellsOf 33 = 1 := by kernel_rfl
theorem Tryd.cellsDents : Tryd.prog.cellsOf 34 = 1 := by kernel_rfl

/-! The bulk of what is read. -/
theorem bulk_one {H : Type} (d : DataW H) : 1 ≤ Rows.uptoBulk d := by
  cases d with
  | lit l => cases l <;> simp [Rows.uptoBulk]
  | nil => simp [Rows.uptoBulk]
  | ptr d => simp [Rows.uptoBulk]
  | slice elems spare => simp [Rows.uptoBulk]
  | agg parts => simp [Rows.uptoBulk]
  | iface t d => simp [Rows.uptoBulk]
  | map entries => simp [Rows.uptoBulk]
  | held h => simp [Rows.uptoBulk]
theorem bulk_append {H : Type} (l r : List (DataW H)) : Rows.uptoBulkAll (l ++ r) = Rows.uptoBulkAll l + Rows.uptoBulkAll r := by
  induction l with
  | nil => simp [Rows.uptoBulkAll]
  | cons x l ih => simp only [List.cons_append, Rows.uptoBulkAll, ih]; omega
theorem wf_i64_bd {k : Int} (h : (Lit.int .i64 k).wf = true) : In64 k := by
  have := bounds_i64 h
  unfold In64
  omega

section
variable {H : Type} {enc : TypeId × Value → H} {w : World} {spare : Nat → Bool} {held : Bool}
theorem cell_addr {a : Addr} {v : Value} (h : w.cell? a = some v) : a.spot = none ∧ a.block < w.heap.size := by
  constructor
  · rcases hs : a.spot with _ | s
    · rfl
    · simp only [World.cell?, hs] at h
      split at h
      · simp at h
      · cases h
  · rcases Nat.lt_or_ge a.block w.heap.size with h' | h'
    · exact h'
    · simp [World.cell?, Array.getElem?_eq_none h'] at h
theorem open_str {fuel : Nat} {cs : List Value} {x : DataW H × List MemPlace} (h : DataW.trod enc Tryd.prog w 0 spare held fuel 9 cs = some x) : ∃ s : ByteArray, cs = [.string s] ∧ s.size + 1 = Rows.uptoBulk x.1 := by
  obtain ⟨s, e, hd, hs⟩ := DataW.trod_string Tryd.underlying9 h
  refine ⟨s, e, ?_⟩
  rw [hd, size_len]; simp [Rows.uptoBulk]
theorem open_i64 {fuel : Nat} {cs : List Value} {x : DataW H × List MemPlace} (h : DataW.trod enc Tryd.prog w 0 spare held fuel 3 cs = some x) : ∃ n : Int, cs = [.int .i64 n] ∧ In64 n ∧ 1 ≤ Rows.uptoBulk x.1 := by
  obtain ⟨a0, e0, _, w0⟩ := DataW.trod_int Tryd.underlying3 h
  exact ⟨a0, e0, wf_i64_bd w0, bulk_one _⟩
/-- A slice, opened: its elements one by one (k cells each), with their bulk. -/
theorem open_row {α : Type} [Inhabited α] {t e : TypeId} {k : Nat} (enca : α → List Value) (Ok : α → Prop) (wt : α → Nat) (ht : Tryd.prog.underlying t = some (.slice e)) (hk : Tryd.prog.cellsOf e = k) (hk0 : 0 < k) (hlen : ∀ a, (enca a).length = k)
    (hel : ∀ {fuel : Nat} {cs : List Value} {x : DataW H × List MemPlace}, DataW.trod enc Tryd.prog w 0 spare held fuel e cs = some x → ∃ a, cs = enca a ∧ Ok a ∧ wt a ≤ Rows.uptoBulk x.1)
    {fuel : Nat} {v : Value} {x : DataW H × List MemPlace} (h : DataW.trod enc Tryd.prog w 0 spare held fuel t [v] = some x) :
    ∃ l : List α, Row w v l.length (l.flatMap enca) ∧ (∀ a ∈ l, Ok a) ∧ (l.map wt).sum + 1 ≤ Rows.uptoBulk x.1 := by
  rcases open_slice ht h with ⟨h0, h1⟩ | ⟨a, len, cap, m, n, D, Pl, hcs, hb, hl, hm, hmm, hxx, hx'⟩
  · simp only [List.cons.injEq, and_true] at h0
    subst h0
    exact ⟨[], ⟨none, 0, rfl, Nat.le_refl _, fun h => absurd h (by simp)⟩, by simp, bulk_one _⟩
  · have hlm : len ≤ m := by rw [hmm]; split <;> omega
    have each : ∀ i, i < len → ∃ q : α, (∀ j u, (enca q)[j]? = some u → w.cell? (a.add (i * k + j)) = some u) ∧ Ok q ∧ wt q ≤ Rows.uptoBulk (D i) := by
      intro i hi
      obtain ⟨cs', h1, h2⟩ := hx' i (by omega)
      rw [hk] at h1
      obtain ⟨_, hlen', hcell⟩ := World.cells?_some h1
      obtain ⟨q, hq, hok⟩ := hel h2
      refine ⟨q, fun j u hj => ?_, hok⟩
      rw [← hq] at hj
      have hjl := (List.getElem?_eq_some_iff.1 hj).1
      have := hcell j (by omega)
      rw [add_add] at this
      rw [this, hj]
    obtain ⟨q, hq⟩ := choose_lt each
    have hsum : ∀ n, n ≤ len → (((List.range n).map q).map wt).sum ≤ Rows.uptoBulkAll ((List.range n).map D) := by
      intro n
      induction n with
      | zero => intro _; simp [Rows.uptoBulkAll]
      | succ n ih =>
        intro hn
        have h1 := ih (by omega)
        have h2 := (hq n (by omega)).2.2
        rw [List.range_succ, List.map_append, List.map_append, List.map_append, bulk_append, List.sum_append]
        simp only [List.map_cons, List.map_nil, List.sum_cons, List.sum_nil, Rows.uptoBulkAll]
        omega
    simp only [List.cons.injEq, and_true] at hcs
    subst hcs
    have hL : ((List.range len).map q).length = len := by simp
    refine ⟨(List.range len).map q, ⟨some a, cap, by rw [hL], by rw [hL]; exact hl, fun h0 => ?_⟩, ?_, ?_⟩
    · rw [hL] at h0
      have hs : a.spot = none ∧ a.block < w.heap.size := by
        have h1 : (enca (q 0))[0]? = some ((enca (q 0))[0]'(by rw [hlen]; exact hk0)) := List.getElem?_eq_getElem _
        have := (hq 0 h0).1 0 _ h1
        exact cell_addr (a := a) (by simpa [Addr.add] using this)
      obtain ⟨ab, ao, sp⟩ := a
      obtain rfl : sp = none := hs.1
      refine ⟨ab, ao, rfl, hs.2, ?_⟩
      have key : ∀ (n : Nat) (j : Nat) (u : Value), n ≤ len → (((List.range n).map q).flatMap enca)[j]? = some u → w.cell? ⟨ab, ao + j, none⟩ = some u := by
        intro n
        induction n with
        | zero => intro j u _ hj; simp at hj
        | succ n ih =>
          intro j u hn hj
          have hl2 : (((List.range n).map q).flatMap enca).length = n * k := by
            clear ih hj hn
            induction n with
            | zero => simp
            | succ n ih2 => rw [List.range_succ, List.map_append, List.flatMap_append, List.length_append, ih2]; simp [hlen, Nat.succ_mul]
          rw [List.range_succ, List.map_append, List.flatMap_append] at hj
          rcases Nat.lt_or_ge j (n * k) with hjn | hjn
          · rw [List.getElem?_append_left (by rw [hl2]; exact hjn)] at hj
            exact ih j u (by omega) hj
          · rw [List.getElem?_append_right (by rw [hl2]; exact hjn), hl2] at hj
            have := (hq n (by omega)).1 (j - n * k) u (by simpa using hj)
            rw [addr_add, show n * k + (j - n * k) = j by omega] at this
            exact this
      intro j u hj
      exact key len j u (Nat.le_refl _) hj
    · intro s hs
      obtain ⟨i, hi, rfl⟩ := List.mem_map.1 hs
      exact (hq i (List.mem_range.1 hi)).2.1
    · have := hsum len (Nat.le_refl _)
      rw [hxx]
      simp only [Rows.uptoBulk]
      omega
theorem open_dent {fuel : Nat} {cs : List Value} {x : DataW H × List MemPlace} (h : DataW.trod enc Tryd.prog w 0 spare held fuel 54 cs = some x) :
    ∃ d : ByteArray × Int, cs = dcell d ∧ In64 d.2 ∧ d.1.size + 1 ≤ Rows.uptoBulk x.1 := by
  obtain ⟨xs, n, _, hxe, hl, hlen, hg⟩ := DataW.trod_struct Tryd.underlying54 h
  rw [Tryd.cellsDent] at hl
  match xs, hlen, cs, hl with
  | [y0, y1], _, [c0, c1], _ =>
    have g0 := hg 0 _ rfl
    have g1 := hg 1 _ rfl
    simp [Tryd.cells3, Tryd.cells9] at g0 g1
    obtain ⟨s, e0, b0⟩ := open_str g0
    obtain ⟨i, e1, b1, _⟩ := open_i64 g1
    simp at e0 e1
    subst e0 e1
    refine ⟨(s, i), rfl, b1, ?_⟩
    rw [hxe]
    simp only [List.map_cons, List.map_nil, Rows.uptoBulk, Rows.uptoBulkAll]
    show s.size + 1 ≤ _
    omega
theorem open_run {fuel : Nat} {cs : List Value} {x : DataW H × List MemPlace} (h : DataW.trod enc Tryd.prog w 0 spare held fuel 45 cs = some x) :
    ∃ d : Int × Int × Int, cs = r3cell d ∧ (In64 d.1 ∧ In64 d.2.1 ∧ In64 d.2.2) ∧ 1 ≤ Rows.uptoBulk x.1 := by
  obtain ⟨xs, n, _, hxe, hl, hlen, hg⟩ := DataW.trod_struct Tryd.underlying45 h
  rw [Tryd.cellsRun] at hl
  match xs, hlen, cs, hl with
  | [y0, y1, y2], _, [c0, c1, c2], _ =>
    have g0 := hg 0 _ rfl
    have g1 := hg 1 _ rfl
    have g2 := hg 2 _ rfl
    simp [Tryd.cells3] at g0 g1 g2
    obtain ⟨i, e0, b0, _⟩ := open_i64 g0
    obtain ⟨j, e1, b1, _⟩ := open_i64 g1
    obtain ⟨k, e2, b2, _⟩ := open_i64 g2
    simp at e0 e1 e2
    subst e0 e1 e2
    exact ⟨(i, j, k), rfl, ⟨b0, b1, b2⟩, bulk_one _⟩
theorem open_span {fuel : Nat} {cs : List Value} {x : DataW H × List MemPlace} (h : DataW.trod enc Tryd.prog w 0 spare held fuel 39 cs = some x) :
    ∃ d : Int × Int, cs = s2cell d ∧ (In64 d.1 ∧ In64 d.2) ∧ 1 ≤ Rows.uptoBulk x.1 := by
  obtain ⟨xs, n, _, hxe, hl, hlen, hg⟩ := DataW.trod_struct Tryd.underlying39 h
  rw [Tryd.cellsSpan] at hl
  match xs, hlen, cs, hl with
  | [y0, y1], _, [c0, c1], _ =>
    have g0 := hg 0 _ rfl
    have g1 := hg 1 _ rfl
    simp [Tryd.cells3] at g0 g1
    obtain ⟨i, e0, b0, _⟩ := open_i64 g0
    obtain ⟨j, e1, b1, _⟩ := open_i64 g1
    simp at e0 e1
    subst e0 e1
    exact ⟨(i, j), rfl, ⟨b0, b1⟩, bulk_one _⟩
theorem sum_ones {α : Type} (l : List α) : (l.map fun _ => 1).sum = l.length := by
  induction l with
  | nil => rfl
  | cons x l ih => simp only [List.map_cons, List.sum_cons, ih, List.length_cons]; omega
theorem ints_flat (l : List Int) : l.flatMap (fun n => [Value.int .i64 n]) = ints l := by
  induction l with
  | nil => rfl
  | cons x l ih => rw [List.flatMap_cons, ih]; rfl
theorem open_node {fuel : Nat} {cs : List Value} {x : DataW H × List MemPlace} (h : DataW.trod enc Tryd.prog w 0 spare held fuel 36 cs = some x) :
    ∃ p : Nd × Value × Value × Value, cs = n10 p ∧ (NdAt w p.1 p.2.1 p.2.2.1 p.2.2.2 ∧ (nwt p.1 ≤ 1200000 → NdIn p.1)) ∧ nwt p.1 ≤ Rows.uptoBulk x.1 := by
  obtain ⟨xs, n, _, hxe, hl, hlen, hg⟩ := DataW.trod_struct Tryd.underlying36 h
  rw [Tryd.cellsNode] at hl
  match xs, hlen, cs, hl with
  | [y0, y1, y2, y3, y4, y5, y6, y7, y8, y9], _, [c0, c1, c2, c3, c4, c5, c6, c7, c8, c9], _ =>
    have g0 := hg 0 _ rfl
    have g1 := hg 1 _ rfl
    have g2 := hg 2 _ rfl
    have g3 := hg 3 _ rfl
    have g4 := hg 4 _ rfl
    have g5 := hg 5 _ rfl
    have g6 := hg 6 _ rfl
    have g7 := hg 7 _ rfl
    have g8 := hg 8 _ rfl
    have g9 := hg 9 _ rfl
    simp [Tryd.cells3, Tryd.cellsInts, Tryd.cellsRuns, Tryd.cellsDents] at g0 g1 g2 g3 g4 g5 g6 g7 g8 g9
    obtain ⟨i0, e0, b0, _⟩ := open_i64 g0
    obtain ⟨i1, e1, b1, _⟩ := open_i64 g1
    obtain ⟨i2, e2, b2, _⟩ := open_i64 g2
    obtain ⟨i3, e3, b3, _⟩ := open_i64 g3
    obtain ⟨l4, r4, b4, s4⟩ := open_row r3cell (fun d => In64 d.1 ∧ In64 d.2.1 ∧ In64 d.2.2) (fun _ => 1) Tryd.underlying33 Tryd.cellsRun (by omega) (fun _ => rfl) (fun h => open_run h) g4
    obtain ⟨l5, r5, b5, s5⟩ := open_row dcell (fun d => In64 d.2) (fun d => d.1.size + 1) Tryd.underlying34 Tryd.cellsDent (by omega) (fun _ => rfl) (fun h => open_dent h) g5
    obtain ⟨i6, e6, b6, _⟩ := open_i64 g6
    obtain ⟨i7, e7, b7, _⟩ := open_i64 g7
    obtain ⟨l8, r8, b8, s8⟩ := open_row (fun n : Int => [Value.int .i64 n]) (fun n => In64 n) (fun _ => 1) Tryd.underlying31 Tryd.cells3 (by omega) (fun _ => rfl) (fun h => open_i64 h) g8
    obtain ⟨i9, e9, b9, _⟩ := open_i64 g9
    simp at e0 e1 e2 e3 e6 e7 e9
    subst e0 e1 e2 e3 e6 e7 e9
    rw [ints_flat] at r8
    rw [sum_ones] at s4 s8
    have s5 : dwt l5 + 1 ≤ _ := s5
    refine ⟨(⟨i0, i1, i2, i3, l4, l5, i6, i7, l8, i9⟩, c4, c5, c8), rfl, ⟨⟨r4, r5, r8⟩, fun hw => ⟨b0, b2, b3, b6, b7, b9, b4, b5, b8, ?_⟩⟩, ?_⟩
    · show l4.length + dwt l5 + l8.length ≤ 1200000
      have hw : 1 + l4.length + dwt l5 + l8.length ≤ 1200000 := hw
      omega
    · rw [hxe]
      show 1 + l4.length + dwt l5 + l8.length ≤ _
      simp only [List.map_cons, List.map_nil, Rows.uptoBulk, Rows.uptoBulkAll]
      omega
theorem nwt_mem {l : List (Nd × Value × Value × Value)} {p : Nd × Value × Value × Value} (h : p ∈ l) : nwt p.1 ≤ twt l := by
  induction l with
  | nil => cases h
  | cons x l ih =>
    have e : twt (x :: l) = nwt x.1 + twt l := by simp [twt]
    rw [e]
    rcases List.mem_cons.1 h with rfl | h
    · omega
    · have := ih h; omega
instance : Inhabited (Nd × Value × Value × Value) := ⟨(⟨0, 0, 0, 0, [], [], 0, 0, [], 0⟩, undef, undef, undef)⟩
/-- A state, opened. -/
theorem open_state {fuel : Nat} {cs : List Value} {x : DataW H × List MemPlace} (h : DataW.trod enc Tryd.prog w 0 spare held fuel 27 cs = some x) (hx : Rows.uptoBulk x.1 ≤ 1048576) :
    ∃ (t : Sta) (vn vf : Value), cs = (tcell t vn vf).toList ∧ StaAt w t vn vf ∧ StaIn t := by
  obtain ⟨xs, n, _, hxe, hl, hlen, hg⟩ := DataW.trod_struct Tryd.underlying27 h
  rw [Tryd.cellsState] at hl
  match xs, hlen, cs, hl with
  | [y0, y1, y2], _, [c0, c1, c2, c3, c4, c5], _ =>
    have g0 := hg 0 _ rfl
    have g1 := hg 1 _ rfl
    have g2 := hg 2 _ rfl
    simp [Tryd.cellsShape, Tryd.cellsNodes, Tryd.cellsSpans] at g0 g1 g2
    obtain ⟨ys, m, _, hye, hl2, hlen2, hs⟩ := DataW.trod_struct Tryd.underlying23 g0
    match ys, hlen2 with
    | [z0, z1, z2, z3], _ =>
      have f0 := hs 0 _ rfl
      have f1 := hs 1 _ rfl
      have f2 := hs 2 _ rfl
      have f3 := hs 3 _ rfl
      simp [Tryd.cells3] at f0 f1 f2 f3
      obtain ⟨i0, e0, b0, _⟩ := open_i64 f0
      obtain ⟨i1, e1, b1, _⟩ := open_i64 f1
      obtain ⟨i2, e2, b2, _⟩ := open_i64 f2
      obtain ⟨i3, e3, b3, _⟩ := open_i64 f3
      obtain ⟨l1, r1, o1, s1⟩ := open_row n10 (fun p => NdAt w p.1 p.2.1 p.2.2.1 p.2.2.2 ∧ (nwt p.1 ≤ 1200000 → NdIn p.1)) (fun p => nwt p.1) Tryd.underlying24 Tryd.cellsNode (by omega) (fun _ => rfl) (fun h => open_node h) g1
      obtain ⟨l2, r2, o2, s2⟩ := open_row s2cell (fun d => In64 d.1 ∧ In64 d.2) (fun _ => 1) Tryd.underlying25 Tryd.cellsSpan (by omega) (fun _ => rfl) (fun h => open_span h) g2
      simp at e0 e1 e2 e3
      subst e0 e1 e2 e3
      rw [sum_ones] at s2
      have s1 : twt l1 + 1 ≤ _ := s1
      rw [hxe] at hx
      simp only [List.map_cons, List.map_nil, Rows.uptoBulk, Rows.uptoBulkAll] at hx
      refine ⟨⟨i0, i1, i2, i3, l1, l2⟩, c4, c5, rfl, ⟨r1, fun p hp => (o1 p hp).1, r2⟩, ⟨b0, b1, b2, fun p hp => (o1 p hp).2 ?_, o2, ?_⟩⟩
      · have h9 : nwt p.1 ≤ twt l1 := nwt_mem hp
        omega
      · show twt l1 + l2.length ≤ 1100000
        omega
end
end Go.Proofs.YtpgabmfpffaajaaDoor
