import Derived.Test.YtdlhdompemkjfaaGreatDoorK21
import Derived.Test.YtdlhdompemkjfaaGreatDoorRows
import Derived.ProofKit
import Derived.OpenShut
import Derived.SizedLaws
import Derived.LaidMore
import Derived.Stop.Joined
import Derived.Stop.LaidErr
import Derived.Lib.LaidTab
import Derived.Deep.Slices
import Derived.Deep.Strs
import Derived.Test.YtdlhdompemkjfaaGreatDoorK24
namespace Go.Proofs.YtdlhdompemkjfaaGreatDoor
open Go.ChangeShapes Go.WideShapes Go.ChangeAt Go.RowKit Go.Deep Go.Joins

theorem Tryz.own : ownKnob Tryz.prog.godebug = none := by kernel_rfl
theorem Tryz.laidOut : laidOutB Tryz.prog = true := by kernel_rfl
theorem Tryz.cellsStep : Tryz.prog.cellsOf 24 = 7 := by kernel_rfl
theorem Tryz.cells3 : Tryz.prog.cellsOf 3 = 1 := by kernel_rfl
theorem Tryz.cells9 : Tryz.prog.cellsOf 9 = 1 := by kernel_rfl
theorem Tryz.cellsInts : Tryz.prog.cellsOf 22 = 1 := by kernel_rfl
theorem Tryz.bytes3 : Tryz.prog.bytesOf 3 = 8 := by kernel_rfl

section
variable {H : Type} {enc : TypeId × Value → H} {w : World} {spare : Nat → Bool} {held : Bool}
/-- All its weights are within reach. -/
def Light (t : TypeId) (d : DataW H) : Prop := ∀ n ∈ d.weights Tryz.prog t, n ≤ reachBytes
theorem cell_addr {a : Addr} {v : Value} (h : w.cell? a = some v) : a.spot = none ∧ a.block < w.heap.size := by
  constructor
  · rcases hs : a.spot with _ | s
    · rfl
    · simp only [World.cell?, hs] at h
      split at h
      · simp at h
      · cases h
  · rcases Nat.lt_or_ge a.block w.heap.size with h' | h'
    · exact h'
    · simp [World.cell?, Array.getElem?_eq_none h'] at h
theorem wf_i64_bd {k : Int} (h : (Lit.int .i64 k).wf = true) : -9223372036854775808 ≤ k ∧ k ≤ 9223372036854775807 := by
  have := bounds_i64 h
  omega
theorem open_str {fuel : Nat} {cs : List Value} {x : DataW H × List MemPlace} (h : DataW.trod enc Tryz.prog w 0 spare held fuel 9 cs = some x) (hx : Light 9 x.1) : ∃ s : ByteArray, cs = [.string s] ∧ s.size ≤ 140737488355328 := by
  obtain ⟨s, e, hd, hs⟩ := DataW.trod_string Tryz.underlying9 h
  refine ⟨s, e, ?_⟩
  have := hx s.data.toList.length (by rw [hd]; simp [DataW.weights])
  rw [← size_len] at this
  unfold reachBytes at this; omega
set_option maxRecDepth 100000 in
/-- A slice of ints, opened. -/
theorem open_ints {fuel : Nat} {v : Value} {x : DataW H × List MemPlace} (h : DataW.trod enc Tryz.prog w 0 spare held fuel 22 [v] = some x) (hx : Light 22 x.1) :
    ∃ l : List Int, Row w v l.length (ints l) ∧ OkI l ∧ l.length * 8 ≤ 140737488355328 := by
  rcases open_slice1 Tryz.underlying22 Tryz.cells3 h with ⟨h0, _⟩ | ⟨a, len, cap, m, n, V, D, Pl, hcs, hb, hl, hm, hmm, hxx, hx'⟩
  · obtain rfl : v = .slice none 0 0 := by simpa using h0
    exact ⟨[], ⟨none, 0, rfl, Nat.le_refl _, fun h => absurd h (by simp)⟩, fun x hx => absurd hx (by simp), by simp⟩
  · have hlm : len ≤ m := by rw [hmm]; split <;> omega
    have each : ∀ i, i < len → ∃ q : Int, w.cell? (a.add i) = some (.int .i64 q) ∧ -9223372036854775808 ≤ q ∧ q ≤ 9223372036854775807 := by
      intro i hi
      obtain ⟨h1, h2⟩ := hx' i (by omega)
      obtain ⟨a0, e0, _, w0⟩ := DataW.trod_int Tryz.underlying3 h2
      simp at e0
      exact ⟨a0, by rw [h1, e0], wf_i64_bd w0⟩
    obtain ⟨q, hq⟩ := choose_lt each
    have hlen : len * 8 ≤ 140737488355328 := by
      rw [hxx] at hx
      have := hx ((((List.range len).map D).length + ((List.range (m - len)).map fun j => D (len + j)).length) * Tryz.prog.bytesOf 3) (by simp [DataW.weights, Tryz.underlying22])
      rw [Tryz.bytes3] at this
      simp [reachBytes] at this
      omega
    refine ⟨(List.range len).map q, ?_, ?_, by simpa using hlen⟩
    · refine ⟨some a, cap, by simpa using hcs, by simp; omega, fun h0 => ?_⟩
      simp only [List.length_map, List.length_range] at h0
      have hs : a.spot = none ∧ a.block < w.heap.size := cell_addr (hq 0 h0).1
      obtain ⟨ab, ao, sp⟩ := a
      obtain rfl : sp = none := hs.1
      refine ⟨ab, ao, rfl, hs.2, fun i u hi => ?_⟩
      have hi2 : i < len := by
        rcases Nat.lt_or_ge i len with h1 | h1
        · exact h1
        · rw [List.getElem?_eq_none (by simp [ints]; exact h1)] at hi; cases hi
      have e : (ints ((List.range len).map q))[i]? = some (.int .i64 (q i)) := by simp [ints, hi2]
      rw [e] at hi
      cases hi
      have c0 := (hq i hi2).1
      rw [addr_add] at c0
      exact c0
    · intro x hx
      obtain ⟨i, hi, rfl⟩ := List.mem_map.1 hx
      exact (hq i (List.mem_range.1 hi)).2
set_option maxRecDepth 100000 in
/-- A step, opened. -/
theorem open_step {fuel : Nat} {cs' : List Value} {x : DataW H × List MemPlace} (h : DataW.trod enc Tryz.prog w 0 spare held fuel 24 cs' = some x) (hx : Light 24 x.1) :
    ∃ (t : St) (v : Value), cs' = (scell t v).toList ∧ Row w v t.l.length (ints t.l) ∧ (-9223372036854775808 ≤ t.kind ∧ t.kind ≤ 9223372036854775807) ∧ InS t ∧ t.l.length ≤ 17592186044416 ∧ t.a.size ≤ 140737488355328 ∧ t.b.size ≤ 140737488355328 := by
  obtain ⟨xs, n, _, hxe, hl, hlen, hg⟩ := DataW.trod_struct Tryz.underlying24 h
  rw [Tryz.cellsStep] at hl
  match xs, hlen, cs', hl with
  | [y0, y1, y2, y3, y4, y5, y6], _, [c0, c1, c2, c3, c4, c5, c6], _ =>
    have g0 := hg 0 _ rfl
    have g1 := hg 1 _ rfl
    have g2 := hg 2 _ rfl
    have g3 := hg 3 _ rfl
    have g4 := hg 4 _ rfl
    have g5 := hg 5 _ rfl
    have g6 := hg 6 _ rfl
    simp [Tryz.cells3, Tryz.cells9, Tryz.cellsInts] at g0 g1 g2 g3 g4 g5 g6
    rw [hxe] at hx
    have hall : ∀ n ∈ DataW.weightsEach Tryz.prog [3, 9, 9, 3, 3, 3, 22] [y0.1, y1.1, y2.1, y3.1, y4.1, y5.1, y6.1], n ≤ reachBytes := fun n hn => hx n (by
      simp only [DataW.weights, Tryz.underlying24]
      exact hn)
    obtain ⟨a0, e0, _, w0⟩ := DataW.trod_int Tryz.underlying3 g0
    obtain ⟨a1, e1, z1⟩ := open_str g1 (fun n hn => hall n (DataW.weights_mem_each (j := 1) rfl rfl n hn))
    obtain ⟨a2, e2, z2⟩ := open_str g2 (fun n hn => hall n (DataW.weights_mem_each (j := 2) rfl rfl n hn))
    obtain ⟨a3, e3, _, w3⟩ := DataW.trod_int Tryz.underlying3 g3
    obtain ⟨a4, e4, _, w4⟩ := DataW.trod_int Tryz.underlying3 g4
    obtain ⟨a5, e5, _, w5⟩ := DataW.trod_int Tryz.underlying3 g5
    obtain ⟨l, hr, ho, hb⟩ := open_ints g6 (fun n hn => hall n (DataW.weights_mem_each (j := 6) rfl rfl n hn))
    simp at e0 e1 e2 e3 e4 e5
    subst e0 e1 e2 e3 e4 e5
    exact ⟨⟨a0, a1, a2, a3, a4, a5, l⟩, c6, rfl, hr, wf_i64_bd w0, ⟨wf_i64_bd w3, wf_i64_bd w4, wf_i64_bd w5, ho⟩, by show l.length ≤ _; omega, z1, z2⟩
end
end Go.Proofs.YtdlhdompemkjfaaGreatDoor

namespace Go.Proofs.YtdlhdompemkjfaaGreatDoor
open Go.ChangeShapes Go.WideShapes Go.ChangeAt Go.RowKit Go.Deep Go.Joins

/-! What the rows' lists give: the library's table and its two errors. -/
theorem laid_iface {P : Program} {n nm : String} {d : DataW Unit} {r : List (String × DataW Unit)} {W : World} {g : Nat} {ti : TypeId} {ms : Array (String × TypeId)} (h : laidMet P ((n, .iface nm d) :: r) W)
    (hg : P.globalNamed n = some g) (ht : (P.globals[g]?).map (·.type) = some ti) (hi : P.underlying ti = some (.interface ms)) : ∃ te pe, W.cell? ⟨g, 0, none⟩ = some (.iface te pe) := by
  obtain ⟨ps, ⟨g0, t0, cs0, f0, p0, q0, hg0, ht0, hv0, hd0, _, e0⟩, _, hrows⟩ := h
  obtain rfl := Option.some.inj (hg.symm.trans hg0)
  obtain rfl := Option.some.inj (ht.symm.trans ht0)
  obtain ⟨f1, u, v, hcs, hn, h1⟩ := iface_of_trod hi hd0
  have := World.var?_cell hg0 hv0 0
  obtain ⟨l0⟩ := cs0
  obtain rfl : l0 = [.iface u v] := hcs
  exact ⟨u, v, by simpa using this⟩
theorem Tryz.gTab : Tryz.prog.globalNamed "internal/strconv.uint64pow10" = some 6 := by kernel_rfl
theorem Tryz.gRng : Tryz.prog.globalNamed "strconv.ErrRange" = some 5 := by kernel_rfl
theorem Tryz.gSyn : Tryz.prog.globalNamed "strconv.ErrSyntax" = some 4 := by kernel_rfl
theorem Tryz.gTabT : (Tryz.prog.globals[6]?).map (·.type) = some 159 := by kernel_rfl
theorem Tryz.gRngT : (Tryz.prog.globals[5]?).map (·.type) = some 51 := by kernel_rfl
theorem Tryz.gSynT : (Tryz.prog.globals[4]?).map (·.type) = some 51 := by kernel_rfl
theorem vars_of {W : World} {r1 r2 r3 : List (String × DataW Unit)} (h1 : laidMet Tryz.prog (("internal/strconv.uint64pow10", Rows.laid_internal_strconv_uint64pow10) :: r1) W) (h2 : laidMet Tryz.prog (("strconv.ErrRange", Rows.laid_strconv_ErrRange) :: r2) W) (h3 : laidMet Tryz.prog (("strconv.ErrSyntax", Rows.laid_strconv_ErrSyntax) :: r3) W) : Vars W :=
  ⟨Lib.tabIs_of_head (k := .u64) (zs := Lib.pow10Tab) Tryz.gTab Tryz.gTabT Tryz.underlying159 Tryz.underlying143 (by kernel_rfl) (by kernel_rfl) h1, laid_iface h3 Tryz.gSyn Tryz.gSynT Tryz.underlying51, laid_iface h2 Tryz.gRng Tryz.gRngT Tryz.underlying51⟩
end Go.Proofs.YtdlhdompemkjfaaGreatDoor

namespace Go.Proofs.YtdlhdompemkjfaaGreatDoor
open Go.ChangeShapes Go.WideShapes Go.ChangeAt Go.RowKit Go.Deep Go.Joins

/-! The document's table out of a row's list. -/
theorem trod_arr {H : Type} {enc : TypeId × Value → H} {P : Program} {w : World} {base : Nat} {sp : Nat → Bool} {held : Bool} {fuel : Nat} {t e : TypeId} {n c : Nat} {cs : List Value} {ds : List (DataW H)} {p : List MemPlace}
    (ht : P.underlying t = some (.array n e)) (hce : P.cellsOf e = c) (h : DataW.trod enc P w base sp held fuel t cs = some (.agg ds, p)) :
    ∃ m, ∀ (i : Nat) (d : DataW H), ds[i]? = some d → ∃ q, DataW.trod enc P w base sp held m e ((cs.drop (i * c)).take c) = some (d, q) := by
  cases fuel with
  | zero => simp [DataW.trod] at h
  | succ fuel =>
    simp only [DataW.trod, ht, hce] at h
    split at h
    · rename_i hl
      obtain ⟨xs, hm, hx⟩ := Option.map_eq_some_iff.1 h
      have hxs : xs.map (·.1) = ds := by
        have := congrArg Prod.fst hx
        simpa using this
      refine ⟨fuel, fun i d hd => ?_⟩
      have hxl : xs.length = n := by simpa using Lib.mapM_length hm
      have hi : i < n := by
        have h1 := (List.getElem?_eq_some_iff.1 hd).1
        rw [← hxs, List.length_map] at h1
        omega
      obtain ⟨b, hb, hf⟩ := Lib.mapM_at hm i i (by simp [hi])
      have h2 : (xs.map (·.1))[i]? = some b.1 := by simp [hb]
      rw [hxs, hd] at h2
      cases h2
      exact ⟨b.2, hf⟩
    · cases h
theorem kds_laid : (Rows.laid_furrow_furrowref19_kinds : DataW Unit) = .agg (.agg [.lit (.string []), .lit (.string [])] :: kds.map fun k => .agg [.lit (.string k.word.data.toList), .lit (.string (lets k.args).data.toList)]) := by rfl
theorem Tryz.gKds : Tryz.prog.globalNamed "furrow/furrowref19.kinds" = some 0 := by kernel_rfl
theorem Tryz.gKdsT : (Tryz.prog.globals[0]?).map (·.type) = some 42 := by kernel_rfl
theorem str_of {s : ByteArray} {l : List UInt8} (h : l = s.data.toList) (t : ByteArray) (e : t.data.toList = l) : s = t := by
  have : s.data = t.data := Array.ext' (by rw [e, h])
  cases s; cases t; cases this; rfl
theorem kv_of {W : World} {r : List (String × DataW Unit)} (h : laidMet Tryz.prog (("furrow/furrowref19.kinds", Rows.laid_furrow_furrowref19_kinds) :: r) W) : KV W := by
  obtain ⟨ps, ⟨g0, t0, cs0, f0, p0, q0, hg0, ht0, hv0, hd0, _, e0⟩, _⟩ := h
  obtain rfl := Option.some.inj (Tryz.gKds.symm.trans hg0)
  obtain rfl := Option.some.inj (Tryz.gKdsT.symm.trans ht0)
  rw [kds_laid] at hd0
  obtain ⟨m, hrow⟩ := trod_arr Tryz.underlying42 (c := 2) (by kernel_rfl) hd0
  intro i k hk
  obtain ⟨q, h1⟩ := hrow (i + 1) _ (by rw [List.getElem?_cons_succ, List.getElem?_map, hk]; rfl)
  obtain ⟨m2, h2⟩ := trod_arr Tryz.underlying41 (c := 1) (by kernel_rfl) h1
  obtain ⟨q3, h3⟩ := h2 0 _ rfl
  obtain ⟨q4, h4⟩ := h2 1 _ rfl
  obtain ⟨s3, e3, x3, _⟩ := DataW.trod_string Tryz.underlying9 h3
  obtain ⟨s4, e4, x4, _⟩ := DataW.trod_string Tryz.underlying9 h4
  have d3 : k.word.data.toList = s3.data.toList := by injection x3 with x3 _; injection x3 with x3; injection x3
  have d4 : (lets k.args).data.toList = s4.data.toList := by injection x4 with x4 _; injection x4 with x4; injection x4
  obtain rfl : s3 = k.word := str_of d3 _ rfl
  obtain rfl : s4 = lets k.args := str_of d4 _ rfl
  have c3 := congrArg (·[0]?) e3
  have c4 := congrArg (·[0]?) e4
  simp [List.getElem?_drop] at c3 c4
  refine ⟨?_, ?_⟩
  · have := World.var?_cell hg0 hv0 ((i + 1) * 2)
    simpa [c3] using this
  · have := World.var?_cell hg0 hv0 ((i + 1) * 2 + 1)
    simpa [c4] using this
end Go.Proofs.YtdlhdompemkjfaaGreatDoor
